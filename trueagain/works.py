"""Works: steps that see the outcomes of those ahead of them as settings."""

from trueagain.errors import BadCount, BadName
from trueagain.paths import is_name, name_not_in


class Work:
    """Steps with names, in order."""

    def __init__(self, parts):
        self.parts = [(name, step) for name, step in parts]
        check_names(self.names())

    def names(self):
        """List the names of the steps."""
        return [name for name, step in self.parts]

    def run(self, world):
        """List the runs of all steps in a world."""
        runs = []
        there = world
        for name, step in self.parts:
            run = step.run(there)
            runs.append(run)
            there = with_outcome(there, name, run)
        return runs

    def again(self, runs, world, rule):
        """List for each step whether a rule leaves it out behind its run or it ran, with the run that it has then."""
        told = []
        there = world
        for (name, step), run in zip(self.parts, runs):
            known = ("left", run) if rule.leaves(run, there) else ("ran", step.run(there))
            told.append(known)
            there = with_outcome(there, name, known[1])
        return told

    def __len__(self):
        return len(self.parts)


def again_needed(names, runs, world):
    """List for each step whether its known run surely holds, surely does not, or that is open."""
    check_names(names)
    if len(names) != len(runs):
        raise BadCount(len(runs))
    words = []
    # Of all that the steps ahead can have said it matters only which later runs can still hold.
    rows = [able_runs(names, runs, world)]
    for number, name in enumerate(names):
        holding = [row for row in rows if number in row]
        words.append(word_for(len(holding), len(rows)))
        further = {}
        for row in rows:
            for text in texts_said(number, name, row, runs):
                further[still_able(row, number, name, text, runs)] = True
        rows = list(further)
    return words


def check_names(names):
    """Raise BadName for the first thing that is no name or stood before."""
    earlier = {}
    for name in names:
        if not is_name(name) or name in earlier:
            raise BadName(name)
        earlier[name] = True


def with_outcome(world, name, run):
    """Return a world in which the outcome of a run is the setting of a name."""
    return world.after([("set", name, run.outcome)])


def able_runs(names, runs, world):
    """Return the numbers of the runs that hold where the steps ahead said what they saw of them."""
    return tuple([number for number, run in enumerate(runs) if is_able(run, names[:number], world)])


def is_able(run, names, world):
    """Tell whether a run can hold in a world where steps of these names, which are ahead, said some text."""
    for look, answer in run.sights:
        if look[0] == "setting" and look[1] in names:
            if answer is None:
                return False
        elif world.answer(look) != answer:
            return False
    return True


def word_for(holding, count):
    """Return the word for a step whose run holds in some of all cases."""
    if holding == count:
        return "left"
    return "run" if holding == 0 else "open"


def texts_said(number, name, row, runs):
    """List what a step can say where the runs of a row can still hold, with one text for all that none of them saw."""
    if number in row:
        return [runs[number].outcome]
    seen = [said for later in row for said in seen_of(runs[later], name)]
    return seen + [name_not_in(seen)]


def still_able(row, number, name, text, runs):
    """Return which runs of a row, of steps behind one, can still hold where it said a text."""
    return tuple([later for later in row if later > number and seen_of(runs[later], name) in ([], [text])])


def seen_of(run, name):
    """List what a run saw of a setting: one answer or nothing."""
    return [answer for look, answer in run.sights if look == ("setting", name)]
