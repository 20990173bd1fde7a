"""Marks: what a tool keeps of runs of one step or of several, from any houses."""

from trueagain.bonds import bar_each_other


class Marks:
    """Runs of which a rule keeps the notes."""

    def __init__(self, rule):
        self.rule = rule
        self.known = []

    def add(self, run):
        """Add a run."""
        self.known.append(run)

    def runs(self):
        """List the runs as they were added."""
        return list(self.known)

    def found(self, world):
        """List the numbers of the runs whose notes are true in a world."""
        return [number for number, run in enumerate(self.known) if self.rule.leaves(run, world)]

    def strays(self, world):
        """List the numbers of those of them that do not hold there."""
        return [number for number in self.found(world) if not self.known[number].holds(world)]

    def clash(self):
        """Return the first pair of numbers of runs that end unlike and are both found in some world, or None."""
        notes = [self.rule.note(run) for run in self.known]
        for first, run in enumerate(self.known):
            for second in range(first + 1, len(notes)):
                unlike = run.outcome != self.known[second].outcome
                if unlike and can_be_found_together(notes[first], notes[second]):
                    return (first, second)
        return None

    def __iter__(self):
        return iter(self.known)

    def __len__(self):
        return len(self.known)


def can_be_found_together(note, other):
    """Tell whether some world has all sights of the notes of two runs."""
    return not any([bar_each_other(one, beside) for one in note for beside in other])
