"""The errors of the package.

Each keeps what it is passed as attributes; its docstring tells what is wrong with these.
"""


class AgainError(ValueError):
    """What all errors of the package are."""


class BadPath(AgainError):
    """This is no path."""

    def __init__(self, path):
        self.path = path


class Blocked(AgainError):
    """A file is above or beneath this path."""

    def __init__(self, path):
        self.path = path


class BadName(AgainError):
    """This is no name, or it stood before."""

    def __init__(self, name):
        self.name = name


class BadLook(AgainError):
    """This is no look."""

    def __init__(self, look):
        self.look = look


class BadChange(AgainError):
    """The thing with this number is no change, or it cannot be done there."""

    def __init__(self, index):
        self.index = index


class BadSight(AgainError):
    """The thing with this number is no sight, or none that may stand there."""

    def __init__(self, index):
        self.index = index


class Apart(AgainError):
    """The sights with these numbers bar each other."""

    def __init__(self, first, second):
        self.first = first
        self.second = second


class BadStep(AgainError):
    """What stands at this place of a tree of choices may not stand there."""

    def __init__(self, place):
        self.place = place


class NoRun(AgainError):
    """The step has no such run."""


class BadIndex(AgainError):
    """This is no number of a sight."""

    def __init__(self, thing):
        self.thing = thing


class NotOne(AgainError):
    """No step has both runs with these numbers."""

    def __init__(self, first, second):
        self.first = first
        self.second = second


class Known(AgainError):
    """All steps with the known runs end with this outcome."""

    def __init__(self, outcome):
        self.outcome = outcome


class BadSort(AgainError):
    """This is no sort of sights, or it stood before."""

    def __init__(self, thing):
        self.thing = thing


class NotTrue(AgainError):
    """The sight with this number is not true in the world."""

    def __init__(self, index):
        self.index = index


class BadPattern(AgainError):
    """This is no pattern."""

    def __init__(self, thing):
        self.thing = thing


class BadCount(AgainError):
    """This number of runs is not that of the names."""

    def __init__(self, n):
        self.n = n


class NoRule(AgainError):
    """No rule fits all trials."""


class NoBranch(AgainError):
    """There is no branch of this name."""

    def __init__(self, name):
        self.name = name


class TakenBranch(AgainError):
    """There is a branch of this name already."""

    def __init__(self, name):
        self.name = name


class NothingToUndo(AgainError):
    """Nothing is left that could be taken back."""


class BadLine(AgainError):
    """The line with this number may not stand there."""

    def __init__(self, index):
        self.index = index
