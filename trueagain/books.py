"""Books: what the known runs of one step tell of it."""

from trueagain.errors import Known, NotOne
from trueagain.steps import Step
from trueagain.trees import tree_of_runs


class Book:
    """What is known of one step: some runs that it has."""

    def __init__(self, runs=()):
        check_one(runs)
        told = {}
        for run in runs:
            told.setdefault((run.sights, run.outcome), run)
        self.told = told
        self.known = list(told.values())

    def runs(self):
        """List the unlike runs, in the order in which they were first passed."""
        return list(self.known)

    def more(self, run):
        """Return the book with a further run."""
        return Book(self.known + [run])

    def says(self, world):
        """Return the outcome with which all steps that have these runs end in a world, or None."""
        for run in self.known:
            if run.holds(world):
                return run.outcome
        return None

    def way(self, world):
        """List the sights that all steps with these runs have in a world, as far as that is known."""
        sights = []
        going = [run for run in self.known if len(run) > 0]
        while len(going) > 0:
            count = len(sights)
            look = going[0].sights[count][0]
            sight = (look, world.answer(look))
            sights.append(sight)
            going = [run for run in going if run.sights[count] == sight and len(run) > count + 1]
        return sights

    def __iter__(self):
        return iter(self.known)

    def __len__(self):
        return len(self.known)

    def __eq__(self, other):
        return isinstance(other, Book) and self.told == other.told


def two_steps(book, world):
    """Return two steps that have all known runs and end unlike in a world."""
    outcome = book.says(world)
    if outcome is not None:
        raise Known(outcome)
    return (Step(tree_of_runs(book.runs(), "a")), Step(tree_of_runs(book.runs(), "b")))


def check_one(runs):
    """Raise NotOne for the first two runs that no step has both."""
    for first, one in enumerate(runs):
        for second in range(first + 1, len(runs)):
            if not can_be_of_one_step(one, runs[second]):
                raise NotOne(first, second)


def can_be_of_one_step(one, other):
    """Tell whether some step has both runs."""
    for sight, beside in zip(one.sights, other.sights):
        if sight != beside:
            return sight[0] == beside[0]
    return len(one) == len(other) and one.outcome == other.outcome
