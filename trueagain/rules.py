"""Rules: which sorts of sights a tool keeps of each run, and what it misses so."""

from trueagain.errors import BadSort
from trueagain.paths import STROKE, beginning, is_beneath, name_not_in
from trueagain.sights import follows
from trueagain.steps import Step, check_holds, first_untrue
from trueagain.trees import tree_of_runs
from trueagain.worlds import changes_between

SORTS = ("contents", "lacking", "names", "nofolder", "setting", "tool")


class Rule:
    """The sorts of sights that a tool keeps."""

    def __init__(self, sorts):
        check_sorts(sorts)
        self.kept = tuple([word for word in SORTS if word in sorts])

    def sorts(self):
        """List the kept sorts, in the order of all sorts."""
        return list(self.kept)

    def note(self, run):
        """List the sights of a run that are kept."""
        return [sight for sight in run.sights if sort_of(sight) in self.kept]

    def leaves(self, run, world):
        """Tell whether the tool leaves the step out in a world behind a run."""
        return first_untrue(self.note(run), world) is None

    def keeps(self, other):
        """Tell whether this rule keeps all that another one keeps."""
        return all([word in self.kept for word in other.kept])

    def __or__(self, other):
        return Rule([word for word in SORTS if word in self.kept or word in other.kept])

    def __and__(self, other):
        return Rule([word for word in SORTS if word in self.kept and word in other.kept])

    def __invert__(self):
        return Rule([word for word in SORTS if word not in self.kept])

    def __iter__(self):
        return iter(self.kept)

    def __len__(self):
        return len(self.kept)

    def __contains__(self, x):
        return isinstance(x, str) and x in self.kept

    def __eq__(self, other):
        return isinstance(other, Rule) and self.kept == other.kept


class Fault:
    """Changes behind which the step is left out in a world where a run of it does not hold."""

    def __init__(self, changes, behind, step):
        self.changes = changes
        self.behind = behind
        self.step = step


def loose(rule, run):
    """List the sights of a run that do not follow from what a rule keeps of it."""
    note = rule.note(run)
    return [sight for sight in run.sights if not follows(note, sight)]


def wrong(rule, run, world):
    """Return a fault with as few changes as possible of a rule behind a run, or None."""
    check_holds(run, world)
    rows = [undoing(sight, run, world) for sight in loose(rule, run)]
    return fault_of(run, world, min(rows, key=len)) if len(rows) > 0 else None


def fault_of(run, world, changes):
    """Return the fault of changes behind which a run does not hold."""
    behind = world.after(changes)
    step = Step(tree_of_runs([run], name_not_in([run.outcome])))
    return Fault(tuple(changes_between(world, behind)), behind, step)


def check_sorts(sorts):
    """Raise BadSort for the first thing that is no sort or stood before."""
    earlier = []
    for thing in sorts:
        if not isinstance(thing, str) or thing not in SORTS or thing in earlier:
            raise BadSort(thing)
        earlier.append(thing)


def sort_of(sight):
    """Return the sort of a sight."""
    look, answer = sight
    if look[0] == "read":
        return "lacking" if answer is None else "contents"
    if look[0] == "list":
        return "nofolder" if answer is None else "names"
    return look[0]


def undoing(sight, run, world):
    """Return as few changes as possible behind which a sight is untrue.

    Other sights of the run from which it does not follow stay true: a new file has a name that
    none of them tells of, or is the one that was lacking.
    """
    look, answer = sight
    if look[0] == "tool":
        return [("tool", name_not_in([answer]))]
    if look[0] == "setting":
        return [("set", look[1], name_not_in([answer]))]
    path = look[1] if look[0] == "read" else new_path(look[1], run, world)
    blocking = [there for there in world.files() if is_beneath(path, there) or is_beneath(there, path)]
    return [("drop", there) for there in blocking] + [("put", path, name_not_in([answer]))]


def new_path(place, run, world):
    """Return the path of a file that a folder lacks, and of which a run does not tell so."""
    paths = [sight[0][1] for sight in run.sights if sight[0][0] == "read"]
    names = [name for path in paths + list(world.files()) for name in path.split(STROKE)]
    return beginning(place) + name_not_in(names)
