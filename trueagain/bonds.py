"""How two sights hang together: what follows from one, and what no world has both of.

All sights here are plain: they have gone through `as_sight`.
"""

from trueagain.paths import STROKE, beginning, is_at_or_beneath, is_beneath, rest_in

TREE_LOOKS = ("read", "list")


def follows_from(one, other):
    """Tell whether the other sight is true wherever the one is."""
    look, answer = one
    lost, nothing = other
    if one == other:
        return True
    if nothing is not None or lost[0] not in TREE_LOOKS:
        return False
    if look[0] == "read":
        return answer is not None and lost_by_file(look[1], lost)
    if look[0] != "list":
        return False
    if answer is None:
        return is_beneath(lost[1], look[1])
    return lost_by_names(look[1], answer, lost)


def lost_by_file(file_path, lost):
    """Tell whether a file being there leaves a read or list look nothing to show."""
    word, path = lost
    if word == "list":
        return is_at_or_beneath(path, file_path)
    return is_beneath(path, file_path) or is_beneath(file_path, path)


def lost_by_names(place, names, lost):
    """Tell whether the names in a folder leave a read or list look nothing to show."""
    word, path = lost
    if not is_beneath(path, place):
        return word == "read" and is_at_or_beneath(place, path)
    name, stroke, deeper = rest_in(path, place).partition(STROKE)
    if name + STROKE in names:
        return word == "read" and deeper == ""
    if name in names:
        return word == "list" or stroke == STROKE
    return True


def bar_each_other(one, other):
    """Tell whether no world has both sights."""
    if one[0] == other[0]:
        return one[1] != other[1]
    return denies_some(one, contraries(other)) or denies_some(other, contraries(one))


def denies_some(sight, others):
    """Tell whether some of the other sights follow from a sight."""
    return any([follows_from(sight, other) for other in others])


def contraries(sight):
    """List the lacking files and the no folders that a sight tells the contrary of.

    That there are folders above a file or an entry need not be told: what leaves no such
    folder leaves nothing beneath it either.
    """
    look, answer = sight
    if answer is None or look[0] not in TREE_LOOKS:
        return []
    if look[0] == "read":
        return [(look, None)]
    return [contrary_of_entry(look[1], entry) for entry in answer]


def contrary_of_entry(place, entry):
    """Return the sight that a folder lacks this file or folder."""
    word = "list" if entry.endswith(STROKE) else "read"
    return ((word, beginning(place) + entry.removesuffix(STROKE)), None)


def first_apart(sights):
    """Return the first pair of numbers of sights that bar each other, or None."""
    for first, one in enumerate(sights):
        for second in range(first + 1, len(sights)):
            if bar_each_other(one, sights[second]):
                return (first, second)
    return None
