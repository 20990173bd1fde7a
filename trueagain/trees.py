"""Trees of choices, which tell what a step does.

All trees here but those passed to `plain_tree` are plain: they have gone through it.
"""

from trueagain.errors import BadStep
from trueagain.looks import as_look, as_sight, is_row
from trueagain.paths import STROKE


def plain_tree(thing, place, above):
    """Return the tree that an object is, with tuples; raise BadStep for its first wrong place.

    It stands at a place of the whole tree, below these looks.
    """
    if is_end(thing):
        return ("end", thing[1])
    look = look_of_ask(thing)
    if look is None or look in above:
        raise BadStep(place)
    known = above + (look,)
    cases = []
    answers = {}
    for number, case in enumerate(thing[2]):
        sight = as_sight((look, case[0])) if is_row(case, 2) else None
        if sight is None or sight[1] in answers:
            raise BadStep(place + (number,))
        answers[sight[1]] = True
        cases.append((sight[1], plain_tree(case[1], place + (number,), known)))
    other = plain_tree(thing[3], place + (len(cases),), known)
    return ("ask", look, tuple(cases), other)


def is_end(thing):
    """Tell of any object whether it is an end."""
    return is_row(thing, 2) and isinstance(thing[0], str) and thing[0] == "end" and isinstance(thing[1], str)


def look_of_ask(thing):
    """Return the look of an ask, whatever its parts are, or None if an object is none."""
    if not is_row(thing, 4) or not isinstance(thing[0], str) or thing[0] != "ask":
        return None
    return as_look(thing[1]) if isinstance(thing[2], (list, tuple)) else None


def unordered(tree):
    """Return a tree with a dict from answers to trees for its cases, which has no order."""
    if tree[0] == "end":
        return tree
    look, cases, other = tree[1:]
    parts = {}
    for answer, part in cases:
        parts[answer] = unordered(part)
    return ("ask", look, parts, unordered(other))


def looks_in(tree):
    """List the looks of a tree, ahead of those of its parts; some may stand there more than once."""
    if tree[0] == "end":
        return []
    looks = [tree[1]]
    for part in parts_of(tree):
        looks.extend(looks_in(part))
    return looks


def outcomes_in(tree):
    """List the outcomes of all ends of a tree; some may stand there more than once."""
    if tree[0] == "end":
        return [tree[1]]
    told = []
    for part in parts_of(tree):
        told.extend(outcomes_in(part))
    return told


def parts_of(ask):
    """List the trees that an ask chooses from: those of its cases, then the other."""
    return [part for answer, part in ask[2]] + [ask[3]]


def words_in(tree):
    """List all names and texts that looks and answers of a tree are made of."""
    if tree[0] == "end":
        return []
    look, cases, other = tree[1:]
    words = look[1].split(STROKE) if len(look) > 1 else []
    for answer, part in cases:
        words.extend(words_of_answer(answer))
        words.extend(words_in(part))
    return words + words_in(other)


def words_of_answer(answer):
    """List the names of an answer, or its text."""
    if answer is None:
        return []
    if isinstance(answer, str):
        return [answer]
    return [entry.removesuffix(STROKE) for entry in answer]


def tree_of_runs(runs, outcome):
    """Return the tree of a step that has these runs, and this outcome wherever none of them holds."""
    return tree_behind(runs, 0, ("end", outcome))


def tree_behind(runs, count, rest):
    """Return what of this tree stands behind as many sights, which all the runs share."""
    if len(runs) == 0:
        return rest
    if len(runs[0]) == count:
        return ("end", runs[0].outcome)
    groups = {}
    for run in runs:
        groups.setdefault(run.sights[count][1], []).append(run)
    cases = []
    for answer, group in groups.items():
        cases.append((answer, tree_behind(group, count + 1, rest)))
    return ("ask", runs[0].sights[count][0], tuple(cases), rest)
