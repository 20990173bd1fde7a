"""Names, paths and the root, and how they lie to each other."""

LETTERS = "abcdefghijklmnopqrstuvwxyz"
LONGEST = 8
STROKE = "/"
ROOT = ""


def is_name(thing):
    """Tell of any object whether it is a name."""
    if not isinstance(thing, str) or not 1 <= len(thing) <= LONGEST:
        return False
    return all([letter in LETTERS for letter in thing])


def is_path(thing):
    """Tell of any object whether it is a path, which the root is not."""
    return isinstance(thing, str) and all([is_name(part) for part in thing.split(STROKE)])


def is_place(thing):
    """Tell of any object whether it is a path or the root."""
    return is_path(thing) or (isinstance(thing, str) and thing == ROOT)


def beginning(place):
    """Return what all paths beneath a path or the root begin with."""
    return ROOT if place == ROOT else place + STROKE


def is_beneath(path, place):
    """Tell whether a path is beneath another one or the root."""
    return path != place and path.startswith(beginning(place))


def is_at_or_beneath(path, place):
    """Tell whether a path is another one or beneath it."""
    return path == place or is_beneath(path, place)


def paths_above(path):
    """List the paths above a path, the shortest first; the root is none of them."""
    return [path[:at] for at, sign in enumerate(path) if sign == STROKE]


def rest_in(path, place):
    """Return what of a path stands behind the path or root that it is beneath."""
    return path[len(beginning(place)):]


def name_numbered(number):
    """Return a name for each number from 0: a, b, .. z, aa, ab .."""
    name = LETTERS[number % len(LETTERS)]
    number = number // len(LETTERS)
    while number > 0:
        number = number - 1
        name = LETTERS[number % len(LETTERS)] + name
        number = number // len(LETTERS)
    return name


def name_not_in(words):
    """Return the first of these names that is none of some words."""
    number = 0
    while name_numbered(number) in words:
        number += 1
    return name_numbered(number)
