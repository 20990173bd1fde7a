"""A live tool with one step, which can take back what was done with it."""

from trueagain.errors import BadName, NoBranch, NothingToUndo, TakenBranch
from trueagain.paths import is_name

MAIN = "main"


class Moment:
    """How things are between two deeds.

    `worlds` is a dict from the names of the branches to their worlds, `branch_name` that of the
    present one, `noted` a tuple of the noted runs, `told` what the last ask told.
    """

    def __init__(self, worlds, branch_name, noted, told):
        self.worlds = worlds
        self.branch_name = branch_name
        self.noted = noted
        self.told = told


class Tool:
    """A tool with one step and a rule. A moment never changes, so it can be kept to go back to."""

    def __init__(self, step, rule, world):
        self.step = step
        self.rule = rule
        self.now = Moment({MAIN: world}, MAIN, (), None)
        self.deeds = []

    def change(self, change):
        """Do a change in the world of the present branch."""
        there = self.world().after([change])
        self.done("change", Moment(with_world(self.now, self.at(), there), self.at(), self.now.noted, self.last()))

    def ask(self):
        """Return whether the step was left out behind a noted run or ran, with the outcome."""
        there = self.world()
        noted = self.now.noted
        for run in reversed(noted):
            if self.rule.leaves(run, there):
                return self.answered(noted, ("left", run.outcome))
        run = self.step.run(there)
        return self.answered(noted + (run,), ("ran", run.outcome))

    def branch(self, name):
        """Make a branch with the present world, and go there."""
        check_name(name)
        if name in self.now.worlds:
            raise TakenBranch(name)
        self.done("branch", Moment(with_world(self.now, name, self.world()), name, self.now.noted, self.last()))

    def go(self, name):
        """Go to a branch."""
        check_name(name)
        if name not in self.now.worlds:
            raise NoBranch(name)
        self.done("go", Moment(self.now.worlds, name, self.now.noted, self.last()))

    def world(self):
        """Return the world of the present branch."""
        return self.now.worlds[self.now.branch_name]

    def at(self):
        """Return the name of the present branch."""
        return self.now.branch_name

    def branches(self):
        """List the names of the branches in the order in which they came."""
        return list(self.now.worlds)

    def runs(self):
        """List the noted runs in order."""
        return list(self.now.noted)

    def last(self):
        """Return what the last ask told, or None if there was none."""
        return self.now.told

    def is_true(self):
        """Tell whether the last ask's outcome, if there was one, is that of the step in the present world."""
        return self.last() is None or self.last()[1] == self.step.run(self.world()).outcome

    def undo(self):
        """Take back the last deed that has not been taken back, and return its word."""
        if len(self.deeds) == 0:
            raise NothingToUndo()
        word, before = self.deeds.pop()
        self.now = before
        return word

    def copy(self):
        """Return an independent copy."""
        other = Tool(self.step, self.rule, self.world())
        other.now = self.now
        other.deeds = list(self.deeds)
        return other

    def done(self, word, behind):
        """Go on to the moment behind a deed."""
        self.deeds.append((word, self.now))
        self.now = behind

    def answered(self, noted, told):
        """Go on with these noted runs behind an ask, and return what it told."""
        self.done("ask", Moment(self.now.worlds, self.at(), noted, told))
        return told


def with_world(now, name, world):
    """Return the worlds of all branches with a further one, or another one in its place."""
    return {**now.worlds, name: world}


def check_name(thing):
    """Raise BadName for any object that is no name."""
    if not is_name(thing):
        raise BadName(thing)
