"""Patterns: which paths they match, and which they miss.

A pattern is taken apart into a row of its parts. A place in a row is the number of its parts
that stand for the names of a path so far; a state has the places in each of several rows.
"""

from trueagain.errors import BadPath, BadPattern
from trueagain.paths import STROKE, is_name, is_path, name_not_in

ONE = "*"
MANY = "**"


def matches(pattern, path):
    """Tell whether a pattern matches a path."""
    rows = rows_of([pattern])
    if not is_path(path):
        raise BadPath(path)
    return some_matches(rows, path)


def missed(patterns, pattern):
    """Return a path with as few names as possible that a pattern matches and none of the others does, or None."""
    rows = rows_of(list(patterns) + [pattern])
    others = rows[:-1]
    return shortest_missed(others, rows[-1], name_not_in(parts_in(others)))


def is_pattern(thing):
    """Tell of any object whether it is a pattern."""
    return isinstance(thing, str) and all([is_part(part) for part in thing.split(STROKE)])


def is_part(text):
    """Tell whether a text is a part of a pattern."""
    return text == ONE or text == MANY or is_name(text)


def rows_of(patterns):
    """List the rows of patterns; raise BadPattern for the first thing that is none."""
    for thing in patterns:
        if not is_pattern(thing):
            raise BadPattern(thing)
    return [thing.split(STROKE) for thing in patterns]


def parts_in(rows):
    """List all parts of some rows."""
    return [part for row in rows for part in row]


def some_matches(rows, path):
    """Tell whether some row matches a path."""
    return is_through(rows, state_behind(rows, path.split(STROKE)))


def state_behind(rows, names):
    """Return the state behind some names."""
    state = tuple([settled(row, (0,)) for row in rows])
    for name in names:
        state = moved(rows, state, name)
    return state


def moved(rows, state, name):
    """Return the state behind one more name."""
    return tuple([places_behind(row, places, name) for row, places in zip(rows, state)])


def places_behind(row, places, name):
    """Return the places in a row behind one more name, ascending."""
    taken = [at for at in places if at < len(row) and row[at] in (name, ONE, MANY)]
    return settled(row, [at if row[at] == MANY else at + 1 for at in taken])


def settled(row, places):
    """Return places in a row, and those behind double stars there that stand for no name, ascending."""
    found = {}
    for at in places:
        found[at] = True
        there = at
        while there < len(row) and row[there] == MANY:
            there += 1
            found[there] = True
    return tuple(sorted(found))


def is_through(rows, state):
    """Tell whether the names so far are a path that some row matches."""
    return any([len(row) in places for row, places in zip(rows, state)])


def shortest_missed(rows, row, word):
    """Return a path with as few names as possible that a row matches and none of the rows does, or None.

    The word is a name that none of the rows has: wherever it leads in them, any other name leads
    too. So all that stars stand for can be this word.
    """
    level = [((), at, state_behind(rows, ())) for at in settled(row, (0,))]
    earlier = {}
    while len(level) > 0:
        longer = with_one_more(rows, row, word, level)
        level = []
        for names, at, state in longer:
            if at == len(row) and not is_through(rows, state):
                return "/".join(names)
            if (at, state) not in earlier:
                earlier[(at, state)] = True
                level.append((names, at, state))
    return None


def with_one_more(rows, row, word, level):
    """List what names with their place in a row and their state come to with one more name."""
    longer = []
    for names, at, state in level:
        if at < len(row):
            name = standing_for(row[at], word)
            there = moved(rows, state, name)
            longer.extend([(names + (name,), place, there) for place in places_behind(row, (at,), name)])
    return longer


def standing_for(part, word):
    """Return a name that a part can stand for, which is the word for a star."""
    return word if part in (ONE, MANY) else part


def fewest_names(row, word):
    """List as few names as a row can stand for, with the word for each star."""
    return [standing_for(part, word) for part in row if part != MANY]
