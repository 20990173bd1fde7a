"""Point 19: marks of several houses."""

import random
import unittest

from drawn import mixed_space, tree_space
from test_sights import EMPTY, listed, read, setting, tool
from trueagain.marks import Marks
from trueagain.rules import SORTS, Rule
from trueagain.steps import Run
from trueagain.worlds import World

ALL, NONE = Rule(SORTS), Rule([])
X = Run([read("a", "x")], "good")
LACKING = Run([read("a"), listed("", "b")], "bad")
WITH_TOOL = Run([tool("7"), setting("s", "y")], "so")


def marks_of(rule, *runs):
    marks = Marks(rule)
    for run in runs:
        marks.add(run)
    return marks


class TestMarks(unittest.TestCase):
    """[19]"""

    def test_without_runs(self):
        for rule in (ALL, NONE):
            marks = Marks(rule=rule)
            self.assertEqual((marks.runs(), list(marks), len(marks), marks.clash()), ([], [], 0, None))
            self.assertEqual((marks.found(World({})), marks.strays(World({}))), ([], []))

    def test_runs_as_added(self):
        marks = Marks(ALL)
        told = [X, LACKING, X, WITH_TOOL, X]
        for count, run in enumerate(told):
            self.assertIsNone(marks.add(run=run))
            self.assertEqual(marks.runs(), told[:count + 1])
            self.assertEqual([run for run in marks], told[:count + 1])
            self.assertEqual(len(marks), count + 1)
        self.assertIs(marks.runs()[1], LACKING)

    def test_found_and_strays(self):
        world = World({"a": "x", "c": ""}, {"s": "y"}, "7")
        for rule, found, strays in ((ALL, [0, 2], []), (NONE, [0, 1, 2], [1]), (Rule(["contents"]), [0, 1, 2], [1]),
                                    (Rule(["lacking"]), [0, 2], []), (Rule(["names"]), [0, 2], []), (~Rule(["tool"]), [0, 2], [])):
            marks = marks_of(rule, X, LACKING, WITH_TOOL)
            self.assertEqual(marks.found(world=world), found)
            self.assertEqual(marks.strays(world=world), strays)
        marks = marks_of(Rule(["setting"]), X, LACKING, WITH_TOOL, X)
        self.assertEqual((marks.found(World({})), marks.strays(World({}))), ([0, 1, 3], [0, 1, 3]))
        self.assertEqual((marks.found(World({}, {"s": "y"})), marks.strays(World({}, {"s": "y"}, "7"))), ([0, 1, 2, 3], [0, 1, 3]))

    def test_clash(self):
        other = Run([read("a", "y")], "bad")
        for rule, runs, told in (
                (ALL, [X, other], None), (Rule(["contents"]), [X, other], None), (~Rule(["contents"]), [X, other], (0, 1)),
                (ALL, [X, X, Run([read("a", "x")], "good")], None), (NONE, [X, X, X], None), (NONE, [X, X, other, WITH_TOOL], (0, 2)),
                (ALL, [X, other, WITH_TOOL], (0, 2)), (ALL, [other, X, LACKING], None), (Rule(["names"]), [X, LACKING], (0, 1)),
                (ALL, [Run([], "good"), Run([], "bad")], (0, 1)), (ALL, [Run([], "good"), X, LACKING], (0, 2)),
                (ALL, [Run([read("a/b", "x")], "1"), Run([listed("a")], "2")], None),
                (ALL, [Run([read("a/b", "x")], "1"), Run([read("a")], "2")], (0, 1)),
                (~Rule(["nofolder"]), [Run([read("a/b", "x")], "1"), Run([listed("a")], "2")], (0, 1)),
                (ALL, [Run([EMPTY], "1"), Run([read("b", "")], "2"), Run([read("c")], "1"), Run([listed("c", "d")], "2")], (1, 2)),
                (ALL, [Run([EMPTY], "1"), Run([read("b", "")], "2"), Run([listed("b", "d")], "3")], None),
                (ALL, [X, X, WITH_TOOL, Run([tool("8")], "so"), LACKING], (0, 2))):
            self.assertEqual(marks_of(rule, *runs).clash(), told)

    def test_two_unlike_outcomes_found_in_one_world(self):
        marks = marks_of(Rule(["contents"]), X, LACKING, Run([read("a", "x"), tool("7")], "bad"))
        self.assertEqual((marks.found(World({"a": "x"})), marks.strays(World({"a": "x"})), marks.clash()), ([0, 1, 2], [1, 2], (0, 1)))

    def test_lists_are_the_callers_own(self):
        marks = marks_of(NONE, X, LACKING)
        for told in (marks.runs(), marks.found(World({})), marks.strays(World({}))):
            told.append(None)
            told.reverse()
        self.assertEqual((marks.runs(), marks.found(World({})), marks.strays(World({}))), ([X, LACKING], [0, 1], [0, 1]))
        self.assertEqual(marks.rule, Rule([]))

    def test_houses_are_apart(self):
        one, other = Marks(ALL), Marks(ALL)
        one.add(X)
        self.assertEqual((len(one), len(other)), (1, 0))
        for thing in (None, [], [X], (X,), ALL, X, 0):
            self.assertFalse(one == thing)
            self.assertFalse(other == thing)


class TestAllWorlds(unittest.TestCase):
    """[19] held against all small worlds."""

    def test_drawn_marks(self):
        draw = random.Random("marks")
        counts = {}
        for space in (tree_space(), mixed_space()):
            for at in range(120):
                rule = Rule(draw.sample(SORTS, draw.randint(0, 6)))
                runs = [space.step(draw, 1 + at % 4).run(space.world(draw)) for _ in range(draw.randint(0, 5))]
                marks = marks_of(rule, *runs)
                self.check(space, draw, marks, [space.where(rule.note(run)) for run in runs])
                counts[marks.clash()] = counts.get(marks.clash(), 0) + 1
        self.assertGreater(counts[None], 40)
        self.assertGreater(counts[(0, 2)], 20)

    def check(self, space, draw, marks, noted):
        runs = marks.runs()
        pairs = [(i, j) for i in range(len(runs)) for j in range(i + 1, len(runs)) if runs[i].outcome != runs[j].outcome]
        self.assertEqual(marks.clash(), next((pair for pair in pairs if noted[pair[0]] & noted[pair[1]]), None))
        for number in draw.sample(range(len(space.worlds)), 5):
            world = space.worlds[number]
            found = [i for i, bits in enumerate(noted) if bits >> number & 1]
            self.assertEqual(marks.found(world), found)
            self.assertEqual(marks.strays(world), [i for i in found if not space.where(runs[i].sights) >> number & 1])


if __name__ == "__main__":
    unittest.main()
