"""Steps, and the runs that they have in worlds."""

from trueagain.errors import BadSight, NotTrue
from trueagain.looks import as_sight
from trueagain.sights import check_together, least
from trueagain.trees import looks_in, plain_tree, unordered


class Run:
    """What is known of a run: its sights, in the order in which the step had them, and its end."""

    def __init__(self, sights, outcome):
        plain = sights_of_run(sights)
        check_together(plain)
        self.sights = tuple(plain)
        self.outcome = outcome

    def note(self):
        """List the sights of the least note."""
        return least(self.sights)

    def holds(self, world):
        """Tell whether all sights are true in a world."""
        return first_untrue(self.sights, world) is None

    def __len__(self):
        return len(self.sights)

    def __eq__(self, other):
        return isinstance(other, Run) and self.sights == other.sights and self.outcome == other.outcome


class Step:
    """A step, told as a tree of choices."""

    def __init__(self, tree):
        self.top = plain_tree(tree, (), ())
        self.choices = unordered(self.top)

    def tree(self):
        """Return the tree, with tuples throughout."""
        return self.top

    def looks(self):
        """List the unlike looks, those of an ask ahead of those of its parts."""
        return list({look: True for look in looks_in(self.top)})

    def run(self, world):
        """Return the run of this step in a world."""
        sights = []
        tree = self.choices
        while tree[0] == "ask":
            look, cases, other = tree[1:]
            answer = world.answer(look)
            sights.append((look, answer))
            tree = cases.get(answer, other)
        return Run(sights, tree[1])

    def __eq__(self, other):
        return isinstance(other, Step) and self.choices == other.choices


def sights_of_run(things):
    """List the sights that things are; raise BadSight for the first that is none or looks again."""
    plain = []
    looks = {}
    for index, thing in enumerate(things):
        sight = as_sight(thing)
        if sight is None or sight[0] in looks:
            raise BadSight(index)
        looks[sight[0]] = True
        plain.append(sight)
    return plain


def first_untrue(sights, world):
    """Return the number of the first sight that is untrue in a world, or None."""
    for index, sight in enumerate(sights):
        if world.answer(sight[0]) != sight[1]:
            return index
    return None


def check_holds(run, world):
    """Raise NotTrue if a run does not hold in a world."""
    index = first_untrue(run.sights, world)
    if index is not None:
        raise NotTrue(index)
