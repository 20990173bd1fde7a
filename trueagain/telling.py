"""Telling which rule a tool has from what it left out, and which rules are alike behind a run."""

from trueagain.errors import NoRule
from trueagain.rules import SORTS, Rule, sort_of, undoing
from trueagain.steps import check_holds


def fitting(trials):
    """List all rules that fit all trials, fewer sorts first, then in the order of the numbers of their sorts."""
    rows = [(untrue_sorts(run, world), left) for run, world, left in trials]
    return [rule for rule in all_rules() if all([fits(rule, untrue, left) for untrue, left in rows])]


def surely(trials):
    """Return the sorts that all fitting rules keep, and those that none keeps."""
    rules = fitting(trials)
    if len(rules) == 0:
        raise NoRule()
    kept = [word for word in SORTS if all([word in rule for rule in rules])]
    return (kept, [word for word in SORTS if not any([word in rule for rule in rules])])


def tests(run, world):
    """List worlds in which any two rules leave out unlike, unless they do so in the same worlds behind a run."""
    check_holds(run, world)
    # What a rule misses is the sights that do not follow from its note: each is untrue in one of
    # these worlds, with only those sights of the run from which it follows.
    return [world.after(undoing(sight, run, world)) for sight in run.sights]


def all_rules():
    """List all rules, fewer sorts first, then in the order of the numbers of their sorts."""
    rows = []
    level = [()]
    while len(level) > 0:
        rows.extend(level)
        level = [row + (number,) for row in level for number in range(len(SORTS)) if row == () or number > row[-1]]
    return [Rule([SORTS[number] for number in row]) for row in rows]


def untrue_sorts(run, world):
    """List the sorts of the sights of a run that are untrue in a world."""
    return [sort_of(sight) for sight in run.sights if world.answer(sight[0]) != sight[1]]


def fits(rule, untrue, left):
    """Tell whether a rule leaves out, where sights of these sorts are untrue, just if the tool left out."""
    return left != any([word in rule for word in untrue])
