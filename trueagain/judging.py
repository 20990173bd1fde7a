"""What is so of a step in all worlds: how it ends, what it needs, why a run of it ended so."""

from trueagain.errors import BadIndex, NoRun
from trueagain.seen import nothing_seen, sights_of, with_answer, with_other
from trueagain.sights import world_of
from trueagain.steps import Step
from trueagain.trees import outcomes_in


def outcomes(step):
    """List the outcomes with which a step ends in some world, ascending."""
    return sorted(set(outcomes_in(pruned(step).tree())))


def parting(one, other):
    """Return a world in which two steps do not end with the same outcome, or None."""
    seen = nothing_seen([one.tree(), other.tree()])
    parted = parted_seen(needed(one.tree(), seen), needed(other.tree(), seen), seen)
    return None if parted is None else world_of(sights_of(parted))


def alike(one, other):
    """Tell whether two steps end with the same outcome in every world."""
    return parting(one, other) is None


def pruned(step):
    """Return a step with what no world needs left out."""
    return Step(needed(step.tree(), nothing_seen([step.tree()])))


def reasons(step, run):
    """List all reasons of a run of which no part is one, fewer sights first."""
    check_has(step, run)
    barring = barring_others(step, run)
    least = []
    level = [()]
    while len(level) > 0:
        enough = [row for row in level if is_enough(row, barring)]
        least = least + [row for row in enough if not has_part(row, least)]
        going = [row for row in level if row not in enough]
        level = [row + (index,) for row in going for index in range(len(run)) if row == () or index > row[-1]]
    return least


def is_reason(step, run, numbers):
    """Tell whether the sights with these numbers are a reason of a run."""
    check_has(step, run)
    for thing in numbers:
        if not isinstance(thing, int) or isinstance(thing, bool) or not 0 <= thing < len(run):
            raise BadIndex(thing)
    return is_enough(numbers, barring_others(step, run))


def needed(tree, seen):
    """Return a tree with what no world needs left out, knowing what was seen above."""
    if tree[0] == "end":
        return tree
    look, cases, other = tree[1:]
    kept = []
    for answer, part in cases:
        below = with_answer(seen, look, answer)
        if below is not None:
            kept.append((answer, needed(part, below)))
    below = with_other(seen, look, answers_of(cases))
    # The other is ruled out only where the look has one answer, so that one case is left.
    return kept[0][1] if below is None else joined(look, kept, needed(other, below))


def joined(look, cases, other):
    """Return the tree of an ask, or what is left of it if it is not needed."""
    if len(cases) == 0:
        return other
    if other[0] == "end" and all([part == other for answer, part in cases]):
        return other
    return ("ask", look, tuple(cases), other)


def answers_of(cases):
    """Return the answers of some cases."""
    return tuple([answer for answer, part in cases])


def ways(ask, seen):
    """List the parts of an ask of which all are needed, each with what is known there."""
    look, cases, other = ask[1:]
    rows = [(part, with_answer(seen, look, answer)) for answer, part in cases]
    return rows + [(other, with_other(seen, look, answers_of(cases)))]


def parted_seen(one, other, seen):
    """Return what is known of a world where two trees end unlike, or None.

    Both are trees of which all is needed, knowing what was seen.
    """
    if one[0] == "end":
        return seen_at_unlike_end(other, one[1], seen)
    for part, below in ways(one, seen):
        parted = parted_seen(part, needed(other, below), below)
        if parted is not None:
            return parted
    return None


def seen_at_unlike_end(tree, outcome, seen):
    """Return what is known at the first end with another outcome of a tree of which all is needed, or None."""
    if tree[0] == "end":
        return None if tree[1] == outcome else seen
    for part, below in ways(tree, seen):
        parted = seen_at_unlike_end(part, outcome, below)
        if parted is not None:
            return parted
    return None


def check_has(step, run):
    """Raise NoRun if a step does not have a run."""
    if step.run(world_of(run.sights)) != run:
        raise NoRun()


def barring_others(step, run):
    """List for ways to other outcomes the numbers of the sights of a run that bar them.

    Sights that go together bar a way only if one of them alone does, so they are a reason
    exactly if there is one of them in each row. A row with another one as its part tells nothing.
    """
    seen = nothing_seen([step.tree()])
    rows = {}
    for outcome, below in seen_at_ends(needed(step.tree(), seen), seen):
        if outcome != run.outcome:
            rows[tuple([index for index, sight in enumerate(run.sights)
                        if with_answer(below, sight[0], sight[1]) is None])] = True
    barring = []
    for row in sorted(rows, key=len):
        if not has_part(row, barring):
            barring.append(row)
    return barring


def seen_at_ends(tree, seen):
    """List the outcomes of all ends of a tree of which all is needed, each with what is known there."""
    if tree[0] == "end":
        return [(tree[1], seen)]
    ends = []
    for part, below in ways(tree, seen):
        ends.extend(seen_at_ends(part, below))
    return ends


def is_enough(numbers, barring):
    """Tell whether some of the numbers stand in each row."""
    return all([any([index in row for index in numbers]) for row in barring])


def has_part(numbers, rows):
    """Tell whether all of some row are among the numbers."""
    return any([all([index in numbers for index in row]) for row in rows])
