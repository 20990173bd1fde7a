"""Points 9 and 10: steps and runs."""

import random
import unittest

from drawn import chain_space
from odd import NO_NAMES, NO_PATHS, NO_STRINGS, NO_TEXTS, ODD, Touchy, Yes
from test_sights import EMPTY, listed, read, setting, tool, wrong_sights
from trueagain.errors import AgainError, Apart, BadSight, BadStep
from trueagain.sights import least
from trueagain.steps import Run, Step
from trueagain.worlds import World

A, B = ("read", "a"), ("read", "b")
GOOD, BAD = ("end", "good"), ("end", "bad")
TREE = ("ask", A, [("x", GOOD), (None, ("ask", B, [(None, BAD)], GOOD))], BAD)
PLAIN = ("ask", A, (("x", GOOD), (None, ("ask", B, ((None, BAD),), GOOD))), BAD)
ALL_LOOKS = [A, ("list", ""), ("list", "a"), ("setting", "s"), ("tool",)]
ANSWERS = {A: ["", "x", None], ("list", ""): [(), ("a", "b/")], ("list", "a"): [("a/",), None],
           ("setting", "s"): ["", "x", None], ("tool",): ["", "x"]}


def as_lists(thing):
    """The same with lists for tuples throughout."""
    return [as_lists(part) for part in thing] if isinstance(thing, (list, tuple)) else thing


def no_trees():
    """Things that are no trees, though some come near; below them is nothing that is looked at."""
    wrong = list(ODD) + [("end",), ("end", "a", "b"), ("end", None), ("end", ("a",)), ("end", b"a"), ("End", "a"),
                         ("end ", "a"), "end", ("ask", A, []), ("ask", A, [], GOOD, GOOD), ("ask",), ("ask", A),
                         ("Ask", A, [], GOOD), ("aske", A, [], GOOD), (A, [], GOOD), ("end", A, [], GOOD), ("ask", "good"),
                         (b"ask", A, [], GOOD), {"end": "a"}, {"end", "a"}, [GOOD], (GOOD, GOOD), ("read", "a"), A]
    wrong += [("end", thing) for thing in NO_STRINGS] + [(thing, "good") for thing in NO_STRINGS]
    wrong += [("ask", thing, [], GOOD) for thing in ODD] + [(thing, A, [], GOOD) for thing in ODD]
    wrong += [("ask", ("read", thing), [], GOOD) for thing in NO_STRINGS + NO_PATHS]
    wrong += [("ask", ("setting", thing), [], GOOD) for thing in NO_STRINGS + NO_NAMES]
    wrong += [("ask", ("list", thing), [], GOOD) for thing in NO_STRINGS + NO_PATHS[1:]]
    wrong += [("ask", ("tool", "a"), [], GOOD), ("ask", "tool", [], GOOD), ("ask", (A,), [], GOOD)]
    return wrong + [("ask", A, thing, GOOD) for thing in ODD if not isinstance(thing, (list, tuple))]


def no_answers(look):
    """Things that are no answers of a look."""
    wrong = [answer for answer in ODD if not isinstance(answer, str) and answer is not None]
    if look[0] in ("read", "setting"):
        return wrong + [("a",), ["a"]]
    if look[0] == "tool":
        return wrong + [None, ("a",)]
    wrong = [answer for answer in wrong if not isinstance(answer, (list, tuple)) or len(answer) > 0]
    wrong += ["", "a", ("b", "a"), ("a", "a"), ("a", "a/"), ["a", None], ("A",), ("a/b",), ("",)]
    return wrong + [None] if look[1] == "" else wrong + [(), []]


class WithPlaces(unittest.TestCase):

    def assert_bad(self, tree, place):
        with self.assertRaises(BadStep) as caught:
            Step(tree)
        self.assertEqual(caught.exception.place, place)
        self.assertIsInstance(caught.exception.place, tuple)
        self.assertIsInstance(caught.exception, AgainError)


class TestTrees(WithPlaces):
    """[9]: what is a tree."""

    def test_right_ones(self):
        for text in ("", "good", "end", "ask", "\n", "\ud800"):
            self.assertEqual(Step(["end", text]).tree(), ("end", text))
        for look in ALL_LOOKS:
            for answers in ([], ANSWERS[look][:1], ANSWERS[look], ANSWERS[look][::-1]):
                tree = ("ask", look, tuple((answer, GOOD) for answer in answers), BAD)
                for told in (tree, as_lists(tree)):
                    self.assertEqual(Step(told).tree(), tree)
                    self.assertEqual(Step(tree=told).looks(), [look])

    def test_tuples_throughout(self):
        tree = ("ask", ("list", ""), (((), GOOD), (("a", "b/"), ("ask", ("tool",), (("7", BAD),), GOOD))),
                ("ask", ("list", "a"), ((("b",), BAD), (None, GOOD)), BAD))
        for told in (tree, as_lists(tree), ["ask", ("list", ""), list(tree[2]), as_lists(tree[3])]):
            self.assert_tuples(Step(told).tree())
            self.assertEqual(Step(told).tree(), tree)
            self.assertEqual(Step(Step(told).tree()).tree(), tree)
        self.assertEqual(Step(TREE).tree(), PLAIN)

    def assert_tuples(self, thing):
        self.assertIsInstance(thing, (tuple, str, type(None)))
        if isinstance(thing, tuple):
            for part in thing:
                self.assert_tuples(part)

    def test_no_trees(self):
        for thing in no_trees():
            self.assert_bad(thing, ())
            self.assert_bad(("ask", ("tool",), [], thing), (0,))
            self.assert_bad(["ask", ("tool",), (("x", GOOD), ["y", thing], ("z", None)), None], (1,))
            self.assert_bad(("ask", ("tool",), (("x", GOOD), ["y", ("ask", B, [(None, GOOD)], thing)], ("z", None)), None), (1, 1))
            self.assert_bad(("ask", B, (("x", ("ask", ("list", ""), [((), BAD), (("a",), thing)], BAD)),), BAD), (0, 1))

    def test_no_cases(self):
        wrong = [thing for thing in ODD if not isinstance(thing, (list, tuple)) or len(thing) != 2]
        wrong += [("x",), ("x", GOOD, GOOD), [], (GOOD,), "xy", {"x": GOOD}, {"x", "y"}, GOOD, A, ("x", GOOD, None)]
        for thing in wrong:
            self.assert_bad(("ask", ("tool",), [thing], GOOD), (0,))
            self.assert_bad(("ask", ("tool",), [("x", GOOD), ("y", TREE), thing, None], None), (2,))
            self.assert_bad(("ask", B, [(None, GOOD)], ("ask", A, ((None, GOOD), thing), None)), (1, 1))

    def test_no_answers(self):
        for look in ALL_LOOKS:
            first = ANSWERS[look][0]
            for answer in no_answers(look):
                self.assert_bad(("ask", look, [(answer, GOOD)], GOOD), (0,))
                self.assert_bad(("ask", look, [(first, GOOD), [answer, None], (first, GOOD)], None), (1,))

    def test_answers_that_stood_before(self):
        for look in ALL_LOOKS:
            for answer in ANSWERS[look]:
                again = as_lists(answer)
                self.assert_bad(("ask", look, [(answer, GOOD), (again, GOOD)], GOOD), (1,))
                rest = [(other, GOOD) for other in ANSWERS[look]]
                self.assert_bad(("ask", look, rest + [[again, BAD]], None), (len(rest),))
        self.assert_bad(("ask", A, [("x", GOOD), (None, GOOD), ("x", None)], None), (2,))

    def test_looks_that_stand_above(self):
        for look in ALL_LOOKS:
            again = as_lists(look)
            answer = ANSWERS[look][0]
            self.assert_bad(("ask", look, [], ("ask", again, [], GOOD)), (0,))
            self.assert_bad(("ask", look, [(answer, ("ask", again, [], GOOD))], None), (0,))
            self.assert_bad(("ask", B, [("x", ("ask", look, [], GOOD)), (None, ("ask", look, [], ("ask", again, None, None)))],
                             ("ask", look, [], GOOD)), (1, 0))
        self.assert_bad(("ask", A, [], ("ask", B, [], ("ask", A, [], GOOD))), (0, 0))
        beside = ("ask", ("tool",), [("x", ("ask", A, [], GOOD)), ("y", ("ask", A, [], GOOD))], ("ask", A, [], GOOD))
        self.assertEqual(Step(beside).looks(), [("tool",), A])

    def test_a_look_above_ahead_of_the_cases(self):
        self.assert_bad(("ask", A, [], ("ask", A, [None], None)), (0,))
        self.assert_bad(("ask", A, None, None), ())
        self.assert_bad(("ask", A, [("x", ("ask", B, 5, None)), None], None), (0,))

    def test_what_holds_itself(self):
        tree = ["ask", A, [], None]
        tree[3] = tree
        self.assert_bad(tree, (0,))
        tree = ["ask", A, [["x", None], (None, GOOD)], GOOD]
        tree[2][0][1] = tree
        self.assert_bad(tree, (0,))
        cases = []
        cases.append(cases)
        self.assert_bad(("ask", A, cases, GOOD), (0,))
        case = [None]
        case.append(case)
        self.assert_bad(("ask", A, [case], GOOD), (0,))

    def test_other_kinds_are_not_asked(self):
        for thing in (Touchy(), Yes()):
            for tree in ((thing, thing), ("end", thing), (thing, A, [], GOOD), ("ask", thing, [], GOOD), ("ask", A, thing, GOOD),
                         ("ask", (thing, "a"), [], GOOD), ("ask", ("read", thing), [], GOOD)):
                self.assert_bad(tree, ())
            self.assert_bad(("ask", A, [thing], GOOD), (0,))
            self.assert_bad(("ask", A, [(thing, GOOD)], GOOD), (0,))
            self.assert_bad(("ask", A, [(None, thing)], GOOD), (0,))
            self.assert_bad(("ask", A, [], thing), (0,))


class TestFirstWrongPlace(WithPlaces):
    """[9]: of several wrong places the first is told."""

    def test_in_order(self):
        """Where the first wrong place is put right, the next one is told."""
        tree = ("ask", A, [("x", ("ask", B, [(None, None)], None)), None, (None, None)], None)
        self.assert_bad(tree, (0, 0))
        self.assert_bad(("ask", A, [("x", ("ask", B, [(None, GOOD)], None)), None, (None, None)], None), (0, 1))
        self.assert_bad(("ask", A, [("x", ("ask", B, [(None, GOOD)], GOOD)), None, (None, None)], None), (1,))
        self.assert_bad(("ask", A, [("x", GOOD), ("y", GOOD), (None, None)], None), (2,))
        self.assert_bad(("ask", A, [("x", GOOD), ("y", GOOD), (None, BAD)], None), (3,))
        self.assert_bad(("ask", None, [("x", GOOD), ("y", GOOD), (None, BAD)], None), ())

    def test_drawn_trees_with_wrong_places(self):
        draw = random.Random("places")
        space = chain_space()
        several = 0
        for at in range(1200):
            tree = space.step(draw, 1 + at % 6).tree()
            places = list(self.places(tree))
            chosen = draw.sample(places, min(len(places), 1 + at % 4))
            broken = tree
            for place in sorted(chosen, key=places.index, reverse=True):
                broken = self.broken(broken, place, (), draw)
            self.assert_bad(broken, min(chosen, key=places.index))
            several += len(chosen) > 1
        self.assertGreater(several, 500)

    def places(self, tree, place=()):
        """All places of a tree, in order."""
        yield place
        if tree[0] == "ask":
            for number, (_, part) in enumerate(tree[2]):
                yield from self.places(part, place + (number,))
            yield from self.places(tree[3], place + (len(tree[2]),))

    def broken(self, tree, place, above, draw):
        """The tree with something wrong at a place."""
        if not place:
            wrong = [None, ("end", None), ("ask", None, [], GOOD), [tree], ("ask", ("tool",), None, GOOD)]
            wrong += [("ask", look, [], GOOD) for look in above]
            return draw.choice(wrong)
        _, look, cases, other = tree
        above = above + (look,)
        if place[0] == len(cases):
            return ("ask", look, cases, self.broken(other, place[1:], above, draw))
        number = place[0]
        answer, part = cases[number]
        wrong = [(answer, self.broken(part, place[1:], above, draw))] * 3
        if len(place) == 1:
            wrong += [None, (answer, part, part), (5, part)] + [(earlier, part) for earlier, _ in cases[:number]]
        return ("ask", look, cases[:number] + (draw.choice(wrong),) + cases[number + 1:], other)


class TestSteps(unittest.TestCase):
    """[9]: looks, equality."""

    def test_looks(self):
        self.assertEqual(Step(GOOD).looks(), [])
        self.assertEqual(Step(TREE).looks(), [A, B])
        tree = ("ask", ("tool",), [("x", ("ask", B, [(None, ("ask", A, [], GOOD))], ("ask", ("list", ""), [], GOOD))),
                                   ("y", ("ask", ("list", "a"), [], ("ask", B, [], GOOD)))],
                ("ask", ("setting", "s"), [], ("ask", A, [], BAD)))
        self.assertEqual(Step(as_lists(tree)).looks(),
                         [("tool",), B, A, ("list", ""), ("list", "a"), ("setting", "s")])

    def test_looks_are_the_callers_own(self):
        step = Step(TREE)
        step.looks().clear()
        self.assertEqual(step.looks(), [A, B])

    def test_equal(self):
        turned = ("ask", A, [(None, ("ask", B, [(None, BAD)], GOOD)), ("x", GOOD)], BAD)
        self.assertEqual(Step(TREE), Step(turned))
        self.assertEqual(Step(TREE), Step(as_lists(TREE)))
        deep = [("ask", ("tool",), [(text, ("ask", A, cases, GOOD)) for text in texts], BAD)
                for texts in ("xy", "yx") for cases in ([("", BAD), (None, GOOD)], [(None, GOOD), ("", BAD)])]
        for one in deep:
            for other in deep:
                self.assertTrue(Step(one) == Step(other))
                self.assertFalse(Step(one) != Step(other))

    def test_unequal(self):
        unlike = [GOOD, BAD, TREE, ("ask", A, [], GOOD), ("ask", B, [], GOOD), ("ask", A, [], BAD), ("ask", A, [("x", GOOD)], BAD),
                  ("ask", A, [("x", BAD)], GOOD), ("ask", A, [("y", GOOD)], BAD), ("ask", A, [(None, GOOD)], BAD),
                  ("ask", A, [("x", GOOD), (None, BAD)], BAD), ("ask", A, [("x", BAD), (None, GOOD)], BAD),
                  ("ask", A, [("", GOOD)], BAD), ("ask", ("list", "a"), [(None, GOOD)], BAD), ("ask", ("setting", "a"), [], GOOD),
                  ("ask", A, [(None, ("ask", B, [(None, BAD)], GOOD)), ("y", GOOD)], BAD), ("ask", A, [], ("ask", B, [], GOOD))]
        for at, one in enumerate(unlike):
            for number, other in enumerate(unlike):
                self.assertIs(Step(one) == Step(other), at == number)
                self.assertIs(Step(one) != Step(other), at != number)
        for thing in (TREE, PLAIN, None, 5, "good", Run([], "good")):
            self.assertFalse(Step(TREE) == thing)
            self.assertFalse(Step(GOOD) == thing)

    def test_later_changes_have_no_effect(self):
        tree = as_lists(TREE)
        step = Step(tree)
        tree[2][1][1][2].append(["y", ["end", "odd"]])
        tree[2][0][1][1] = "odd"
        tree[1][1] = "c"
        tree[2].clear()
        tree[3] = None
        self.assertEqual(step.tree(), PLAIN)
        self.assertEqual(step.run(World({"a": "x"})), Run([read("a", "x")], "good"))
        listing = ["ask", ["list", ""], [[["a"], GOOD]], BAD]
        step = Step(listing)
        listing[2][0][0].append("b")
        self.assertEqual(step.tree(), ("ask", ("list", ""), ((("a",), GOOD),), BAD))
        self.assertEqual(step.run(World({"a": ""})).outcome, "good")

    def test_nothing_passed_is_changed(self):
        tree = as_lists(TREE)
        Step(tree).run(World({}))
        self.assertEqual(tree, as_lists(TREE))


class TestRunsOfSteps(unittest.TestCase):
    """[10]: what a step sees in a world."""

    def test_run(self):
        step = Step(TREE)
        for files, sights, outcome in (({"a": "x"}, [read("a", "x")], "good"), ({"a": "y"}, [read("a", "y")], "bad"),
                                       ({}, [read("a"), read("b")], "bad"), ({"b": ""}, [read("a"), read("b", "")], "good"),
                                       ({"a/c": "x"}, [read("a"), read("b")], "bad")):
            run = step.run(world=World(files))
            self.assertIsInstance(run, Run)
            self.assertEqual(run.sights, tuple(sights))
            self.assertEqual(run.outcome, outcome)
            self.assertEqual(run, Run(sights, outcome))

    def test_ends_and_asks_without_cases(self):
        world = World({"a/b": "x"}, {"s": "t"}, "7")
        self.assertEqual(Step(GOOD).run(world), Run([], "good"))
        for look in (A, ("read", "a/b"), ("list", ""), ("list", "a"), ("list", "c"), ("setting", "s"), ("setting", "t"), ("tool",)):
            self.assertEqual(Step(("ask", look, [], BAD)).run(world), Run([(look, world.answer(look))], "bad"))

    def test_all_kinds_of_answers(self):
        world = World({"a/b": "x"}, {"s": "t"}, "7")
        for look, answer in ((A, None), (("read", "a/b"), "x"), (("list", ""), ["a/"]), (("list", "a"), ("b",)),
                             (("list", "c"), None), (("setting", "s"), "t"), (("setting", "t"), None), (("tool",), "7")):
            self.assertEqual(Step(("ask", look, [(answer, GOOD)], BAD)).run(world).outcome, "good")
            others = [other for other in ("x", "t", "7", "", None) if other != answer and look[0] != "list"]
            others = [other for other in others if look[0] != "tool" or other is not None]
            others += [("c",), ("b/",)] if look[0] == "list" else []
            self.assertEqual(Step(("ask", look, [(other, GOOD) for other in others], BAD)).run(world).outcome, "bad")

    def test_looks_that_follow_from_what_was_seen(self):
        tree = ("ask", ("list", ""), [(("a",), ("ask", ("list", "a"), [(("b",), GOOD)], ("ask", B, [("x", GOOD)], BAD)))], GOOD)
        self.assertEqual(Step(tree).run(World({"a": ""})), Run([listed("", "a"), listed("a"), read("b")], "bad"))


class TestRuns(unittest.TestCase):
    """[10]: runs."""

    SIGHTS = [listed("", "a/", "c"), read("d"), setting("s"), read("a/b", "x"), listed("c"), tool("")]

    def test_attributes(self):
        run = Run(sights=self.SIGHTS, outcome="good")
        self.assertEqual(run.sights, tuple(self.SIGHTS))
        self.assertIsInstance(run.sights, tuple)
        self.assertEqual(run.outcome, "good")
        self.assertEqual(len(run), 6)
        lists = as_lists(self.SIGHTS)
        for told in (lists, tuple(self.SIGHTS), tuple(lists)):
            self.assertEqual(Run(told, "good").sights, tuple(self.SIGHTS))
        self.assertEqual([type(part) for part in Run(lists, "good").sights], [tuple] * 6)
        self.assertEqual((Run([], "").sights, Run((), "").outcome, len(Run([], ""))), ((), "", 0))

    def test_note(self):
        run = Run(self.SIGHTS, "good")
        self.assertEqual(run.note(), [listed("", "a/", "c"), setting("s"), read("a/b", "x"), tool("")])
        self.assertEqual(run.note(), least(self.SIGHTS))
        self.assertEqual(Run(self.SIGHTS[::-1], "good").note(), run.note()[::-1])
        self.assertEqual(Run([], "good").note(), [])
        run.note().clear()
        self.assertEqual(len(run.note()), 4)

    def test_holds(self):
        run = Run(self.SIGHTS, "good")
        world = World({"a/b": "x", "c": "y"}, {"t": "u"})
        self.assertIs(run.holds(world=world), True)
        for change in (("put", "a/c", ""), ("put", "c", ""), ("drop", "a/b"), ("set", "t", None), ("set", "s", "")):
            behind = world.after([change])
            self.assertIs(run.holds(behind), all(behind.answer(look) == answer for look, answer in self.SIGHTS))
        for change in (("put", "a/b", ""), ("drop", "a/b"), ("drop", "c"), ("put", "d", ""), ("set", "s", ""), ("tool", "7")):
            self.assertIs(run.holds(world.after([change])), False)
        self.assertIs(Run([], "good").holds(World({})), True)

    def test_bad_sights(self):
        for thing in wrong_sights():
            for index, sights in ((0, [thing]), (2, [read("a"), tool(""), thing, None]), (1, (read("a"), thing, read("a"))),
                                  (1, [tool("1"), thing, tool("2")])):
                with self.assertRaises(BadSight) as caught:
                    Run(sights, "good")
                self.assertEqual(caught.exception.index, index)

    def test_looks_that_stood_before(self):
        for one in (read("a"), read("a", "x"), EMPTY, listed("a"), listed("a", "b"), setting("s"), setting("s", "x"), tool("")):
            for other in (read("a"), read("a", ""), listed("a"), setting("s"), tool(""), tool("7"), EMPTY, listed("", "c"),
                          listed("a", "b", "d/")):
                if one[0] == other[0]:
                    for index, sights in ((1, [one, other]), (2, [one, read("q"), as_lists(other), None]),
                                          (1, [one, other, read("a"), read("a", "x")])):
                        with self.assertRaises(BadSight) as caught:
                            Run(sights, "good")
                        self.assertEqual(caught.exception.index, index)

    def test_apart(self):
        for sights, pair in (([read("a", "x"), setting("s"), listed("a", "b"), read("a/b")], (0, 2)),
                             ([tool(""), read("a"), read("b"), listed("", "b"), listed("c", "d")], (2, 3)),
                             ([EMPTY, tool("7"), read("a", "x")], (0, 2))):
            with self.assertRaises(Apart) as caught:
                Run(sights, "good")
            self.assertEqual((caught.exception.first, caught.exception.second), pair)
            with self.assertRaises(BadSight) as caught:
                Run(sights + [sights[1]], "good")
            self.assertEqual(caught.exception.index, len(sights))

    def test_equal(self):
        run = Run(self.SIGHTS, "good")
        for other in (Run(self.SIGHTS, "good"), Run(as_lists(self.SIGHTS), "good"), Run(run.sights, run.outcome)):
            self.assertTrue(run == other)
            self.assertFalse(run != other)
        for other in (Run(self.SIGHTS, "bad"), Run(self.SIGHTS[::-1], "good"), Run(self.SIGHTS[:5], "good"), Run([], "good"),
                      Run(self.SIGHTS[1:] + self.SIGHTS[:1], "good"), self.SIGHTS, run.sights, None, "good",
                      (run.sights, "good"), Step(GOOD)):
            self.assertFalse(run == other)
            self.assertTrue(run != other)
        self.assertEqual(Run([], "x"), Run((), "x"))

    def test_later_changes_have_no_effect(self):
        sights = as_lists(self.SIGHTS)
        run = Run(sights, "good")
        sights[0][1].append("d")
        sights[1][0][1] = "e"
        sights.pop()
        self.assertEqual(run, Run(self.SIGHTS, "good"))
        self.assertEqual(run.sights, tuple(self.SIGHTS))

    def test_document_says(self):
        step = Step(TREE)
        self.assertEqual([step.run(World({"b": "y"})).sights, step.run(World({"b": "y"})).outcome, step.looks()],
                         [((("read", "a"), None), (("read", "b"), "y")), "good", [("read", "a"), ("read", "b")]])


if __name__ == "__main__":
    unittest.main()
