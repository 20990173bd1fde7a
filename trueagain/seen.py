"""What is known of a world on a way through the trees of steps.

A look had one answer, or, where an ask went on with its other, none of some answers. In the
second case all that matters is whether there is nothing to show: if there is something, it can
always be something that no tree tells of. So such a look is left open for as long as nothing
to show goes together with all else, and has a sight that stands for all other answers from
then on. This finds out whether there is such a world, since no two sights of nothing to show
bar each other: what is left open can be settled by nothing to show throughout.
"""

from trueagain.bonds import TREE_LOOKS, bar_each_other
from trueagain.looks import can_show
from trueagain.paths import beginning, is_at_or_beneath, is_beneath, name_not_in
from trueagain.trees import words_in


class Seen:
    """What is known of a world.

    `word` is a name that no tree tells of, `held` has a sight for each look that is not open,
    `shut` the answers that are ruled out for each look that has not told one answer.
    """

    def __init__(self, word, held, shut):
        self.word = word
        self.held = held
        self.shut = shut


def nothing_seen(trees):
    """Return what is known at the top of some trees."""
    words = {}
    for tree in trees:
        for word in words_in(tree):
            words[word] = True
    return Seen(name_not_in(words), {}, {})


def with_answer(seen, look, answer):
    """Return what is known once a look had an answer, or None if no such world has it."""
    if look in seen.held and look not in seen.shut:
        return seen if seen.held[look][1] == answer else None
    if answer in seen.shut.get(look, ()):
        return None
    return with_sight(without(seen, look), look, (look, answer))


def with_other(seen, look, answers):
    """Return what is known once a look had none of some answers, or None if no such world is left."""
    if look in seen.held and look not in seen.shut:
        return None if seen.held[look][1] in answers else seen
    shut = {one: seen.shut[one] for one in seen.shut}
    shut[look] = seen.shut.get(look, ()) + answers
    behind = Seen(seen.word, seen.held, shut)
    if None not in shut[look] and can_be_nothing(seen, look):
        return behind
    return with_sight(behind, look, something(look, seen.word))


def can_be_nothing(seen, look):
    """Tell whether a look can have nothing to show."""
    return can_show(look, None) and not is_barred(seen.held, (look, None))


def is_barred(held, sight):
    """Tell whether a sight is barred by some that are held."""
    return any([bar(sight, other) for other in held.values()])


def bar(one, other):
    """Tell whether two sights of unlike looks bar each other, soon if they lie apart."""
    return lie_together(one[0], other[0]) and bar_each_other(one, other)


def lie_together(look, other):
    """Tell whether two looks go to one path, or to one above the other."""
    if look[0] not in TREE_LOOKS or other[0] not in TREE_LOOKS:
        return False
    return is_at_or_beneath(look[1], other[1]) or is_beneath(other[1], look[1])


def something(look, word):
    """Return a sight that is barred by whatever bars that a look has something to show."""
    if look[0] == "list":
        return (("read", beginning(look[1]) + word), word)
    return (look, word)


def without(seen, look):
    """Return what is known of all other looks."""
    held = {one: seen.held[one] for one in seen.held if one != look}
    shut = {one: seen.shut[one] for one in seen.shut if one != look}
    return Seen(seen.word, held, shut)


def with_sight(seen, look, sight):
    """Return what is known with a sight held for a look, or None if it is barred.

    Open looks that can have nothing to show no longer are not open then.
    """
    held = {one: seen.held[one] for one in seen.held}
    waiting = [(look, sight)]
    while len(waiting) > 0:
        here, told = waiting.pop()
        if is_barred(held, told):
            return None
        held[here] = told
        still_open = [one for one in seen.shut if one not in held]
        forced = [one for one in still_open if bar(told, (one, None))]
        waiting = [(one, something(one, seen.word)) for one in forced] + waiting
    return Seen(seen.word, held, seen.shut)


def sights_of(seen):
    """List sights that are true together, and wherever they are all that is known is so."""
    still_open = [look for look in seen.shut if look not in seen.held]
    return [seen.held[look] for look in seen.held] + [(look, None) for look in still_open]
