"""Looks, answers and sights, told from any other object.

Lists may stand for tuples in what is passed; what is returned has tuples.
"""

from trueagain.paths import ROOT, STROKE, is_name, is_path, is_place


def is_row(thing, size):
    """Tell of any object whether it is a tuple or a list of so many items."""
    return isinstance(thing, (list, tuple)) and len(thing) == size


def as_look(thing):
    """Return the look that an object is, or None if it is none."""
    if is_row(thing, 1) and isinstance(thing[0], str) and thing[0] == "tool":
        return ("tool",)
    if is_row(thing, 2) and can_look(thing[0], thing[1]):
        return (thing[0], thing[1])
    return None


def can_look(word, where):
    """Tell of any two objects whether they are the items of a look."""
    if not isinstance(word, str):
        return False
    if word == "read":
        return is_path(where)
    if word == "list":
        return is_place(where)
    return word == "setting" and is_name(where)


def can_show(look, answer):
    """Tell of any object whether it is an answer that a look can have."""
    word = look[0]
    if answer is None:
        return word != "tool" and look != ("list", ROOT)
    if word == "list":
        return is_listing(answer) and (len(answer) > 0 or look[1] == ROOT)
    return isinstance(answer, str)


def is_listing(thing):
    """Tell of any object whether it can be the names in a folder."""
    if not isinstance(thing, (list, tuple)) or not all([is_entry(entry) for entry in thing]):
        return False
    names = [entry.removesuffix(STROKE) for entry in thing]
    return all([one < other for one, other in zip(names, names[1:])])


def is_entry(thing):
    """Tell of any object whether it is a name, or a name with a stroke behind it."""
    return isinstance(thing, str) and is_name(thing.removesuffix(STROKE))


def as_sight(thing):
    """Return the sight that an object is, or None if it is none."""
    if not is_row(thing, 2):
        return None
    look = as_look(thing[0])
    if look is None or not can_show(look, thing[1]):
        return None
    if isinstance(thing[1], (list, tuple)):
        return (look, tuple(thing[1]))
    return (look, thing[1])
