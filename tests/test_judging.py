"""Points 11 to 13: ways that can be, pruned steps, reasons."""

import unittest

from odd import ODD
from test_sights import EMPTY, listed, read, setting, tool
from trueagain.errors import AgainError, BadIndex, NoRun
from trueagain.judging import alike, is_reason, outcomes, parting, pruned, reasons
from trueagain.steps import Run, Step
from trueagain.worlds import World

GOOD, BAD, SO = ("end", "good"), ("end", "bad"), ("end", "so")


def ask(sight, part, other):
    """The tree with one case."""
    return ("ask", sight[0], [(sight[1], part)], other)


TREE = ask(read("a", "x"), GOOD, ask(read("b"), BAD, GOOD))
# Trees with ways that no world goes, and what is left of them.
SETTLED = [
    (ask(listed("", "a"), ask(read("b"), GOOD, SO), BAD), ask(listed("", "a"), GOOD, BAD)),
    (ask(listed("", "a"), ask(read("b", "x"), SO, GOOD), BAD), ask(listed("", "a"), GOOD, BAD)),
    (ask(listed("", "a"), ask(read("a"), SO, GOOD), BAD), ask(listed("", "a"), GOOD, BAD)),
    (ask(listed("", "a"), ask(listed("a"), GOOD, SO), BAD), ask(listed("", "a"), GOOD, BAD)),
    (ask(listed("", "a/"), ask(listed("a"), SO, GOOD), BAD), ask(listed("", "a/"), GOOD, BAD)),
    (ask(listed("", "a/"), ask(read("a", "x"), SO, GOOD), BAD), ask(listed("", "a/"), GOOD, BAD)),
    (ask(listed("a", "b"), ask(EMPTY, SO, GOOD), BAD), ask(listed("a", "b"), GOOD, BAD)),
    (ask(listed("a/b", "c"), ask(listed("a", "b"), SO, GOOD), BAD), ask(listed("a/b", "c"), GOOD, BAD)),
    (ask(listed("a/b", "c"), ask(listed("a"), SO, GOOD), BAD), ask(listed("a/b", "c"), GOOD, BAD)),
    (ask(read("a/b", "x"), ask(read("a", "y"), SO, GOOD), BAD), ask(read("a/b", "x"), GOOD, BAD)),
    (ask(read("a", "x"), ask(listed("a"), GOOD, SO), BAD), ask(read("a", "x"), GOOD, BAD)),
    (ask(listed("a"), ask(read("a/b/c"), GOOD, SO), BAD), ask(listed("a"), GOOD, BAD)),
    (ask(listed("a"), ask(listed("a/b"), GOOD, SO), BAD), ask(listed("a"), GOOD, BAD)),
    # What is seen by an other counts, too.
    (ask(read("a"), BAD, ask(listed("a", "b"), SO, GOOD)), ask(read("a"), BAD, GOOD)),
    (ask(read("a"), BAD, ask(EMPTY, SO, GOOD)), ask(read("a"), BAD, GOOD)),
    (ask(listed("a"), BAD, ask(read("a"), GOOD, SO)), ask(listed("a"), BAD, GOOD)),
    (ask(listed("a/b"), BAD, ask(listed("a"), SO, GOOD)), ask(listed("a/b"), BAD, GOOD)),
    (ask(read("a/b"), BAD, ask(listed("", "b/"), SO, GOOD)), ask(read("a/b"), BAD, GOOD)),
    # So does what is seen by an other and what is seen behind it together.
    (ask(read("a", "x"), BAD, ask(listed("", "a"), ask(listed("a"), GOOD, SO), BAD)),
     ask(read("a", "x"), BAD, ask(listed("", "a"), GOOD, BAD))),
    (ask(read("a", "x"), BAD, ask(listed("", "a/"), ask(listed("a"), SO, GOOD), BAD)),
     ask(read("a", "x"), BAD, ask(listed("", "a/"), GOOD, BAD))),
    (ask(listed("a/b"), BAD, ask(read("a/b/c"), ask(listed("", "b/"), SO, GOOD), BAD)),
     ask(listed("a/b"), BAD, ask(read("a/b/c"), GOOD, BAD))),
]
# Trees of which nothing can be left out.
NEEDED = [
    GOOD, TREE, ask(EMPTY, ask(setting("s"), GOOD, BAD), GOOD), ask(listed("", "a"), ask(read("a", "x"), GOOD, BAD), BAD),
    ask(listed("", "a/"), ask(listed("a", "b"), GOOD, BAD), BAD), ask(listed("a", "b/"), ask(listed("a/b", "c"), GOOD, BAD), BAD),
    ask(read("a"), ask(listed("a"), GOOD, BAD), GOOD), ask(listed("a"), ask(read("a"), GOOD, BAD), GOOD),
    ask(read("a", "x"), GOOD, ask(listed("a"), GOOD, BAD)), ask(read("a"), GOOD, ask(read("b", "x"), BAD, GOOD)),
    ask(listed("a"), GOOD, ask(read("a/b"), GOOD, BAD)),
    ("ask", ("list", "a"), [(None, GOOD), (("b",), BAD)], GOOD), ("ask", ("read", "a"), [("x", GOOD), (None, GOOD)], BAD),
    ask(tool(""), GOOD, BAD), ask(tool("7"), GOOD, ask(setting("s"), BAD, GOOD)),
]


def ends(tree):
    """The outcomes of all ends of a tree."""
    if tree[0] == "end":
        return {tree[1]}
    return set().union(ends(tree[3]), *[ends(part) for _, part in tree[2]])


class TestOutcomes(unittest.TestCase):
    """[11]: outcomes."""

    def test_outcomes(self):
        self.assertEqual(outcomes(Step(GOOD)), ["good"])
        self.assertEqual(outcomes(step=Step(TREE)), ["bad", "good"])
        self.assertEqual(outcomes(Step(("ask", ("tool",), [(text, ("end", text)) for text in ("b", "", "ab", "a")], ("end", "B")))),
                         ["", "B", "a", "ab", "b"])
        self.assertEqual(outcomes(Step(("ask", ("read", "a"), [], GOOD))), ["good"])
        outcomes(Step(TREE)).clear()
        self.assertEqual(outcomes(Step(TREE)), ["bad", "good"])

    def test_ways_that_no_world_goes(self):
        for tree, left in SETTLED:
            self.assertLess(ends(left), ends(tree))
            self.assertEqual(outcomes(Step(tree)), sorted(ends(left)), tree)

    def test_all_ways_that_some_world_goes(self):
        deep = ("end", "0")
        for number, sight in enumerate([read("a", "x"), setting("s"), tool("7"), listed("", "b", "e/"), read("c/d"), listed("e", "f")]):
            deep = ask(sight, deep, ("end", str(number + 1)))
        self.assertEqual(outcomes(Step(deep)), ["1", "2", "3", "4", "5", "6"])
        deep = ("end", "0")
        for number, sight in enumerate([read("a", "x"), setting("s"), tool("7"), listed("b", "b"), read("c/d"), listed("e", "f")]):
            deep = ask(sight, ("end", str(number + 1)), deep)
        self.assertEqual(outcomes(Step(deep)), ["0", "1", "2", "3", "4", "5", "6"])


class TestParting(unittest.TestCase):
    """[11]: parting, alike."""

    def assert_parted(self, one, other):
        for first, second in ((one, other), (other, one)):
            world = parting(one=first, other=second)
            self.assertIsInstance(world, World)
            self.assertNotEqual(first.run(world).outcome, second.run(world).outcome)
            self.assertEqual(parting(first, second), world)
            self.assertIs(alike(one=first, other=second), False)

    def assert_alike(self, one, other):
        for first, second in ((one, other), (other, one)):
            self.assertIsNone(parting(first, second))
            self.assertIs(alike(first, second), True)

    def test_ends(self):
        self.assert_alike(Step(GOOD), Step(GOOD))
        self.assert_parted(Step(GOOD), Step(BAD))
        self.assert_alike(Step(GOOD), Step(("ask", ("read", "a"), [], GOOD)))
        self.assert_alike(Step(GOOD), Step(ask(read("a"), GOOD, ask(tool("7"), GOOD, GOOD))))
        self.assert_parted(Step(GOOD), Step(ask(read("a"), GOOD, ask(tool("7"), BAD, GOOD))))

    def test_alike_though_unlike_things_are_asked(self):
        for tree, left in SETTLED:
            self.assert_alike(Step(tree), Step(left))
        self.assert_alike(Step(ask(read("a"), ask(read("b"), GOOD, BAD), SO)),
                          Step(ask(read("b"), ask(read("a"), GOOD, SO), ask(read("a"), BAD, SO))))
        self.assert_alike(Step(ask(EMPTY, GOOD, ask(read("a", "x"), BAD, SO))),
                          Step(ask(read("a", "x"), BAD, ask(EMPTY, GOOD, SO))))
        self.assert_alike(Step(ask(listed("", "a"), ask(read("a", "x"), GOOD, BAD), BAD)),
                          Step(ask(read("a", "x"), ask(listed("", "a"), GOOD, BAD), BAD)))
        self.assert_alike(Step(ask(listed("a"), ask(read("a"), BAD, GOOD), BAD)), Step(ask(read("a"), BAD, GOOD)))

    def test_parted(self):
        for tree, _ in SETTLED:
            self.assert_parted(Step(tree), Step(GOOD))
        for look in (("read", "a"), ("list", "a"), ("list", ""), ("setting", "s"), ("tool",)):
            answers = {"read": ["x", "", None, "y"], "list": [("a",), ("a/",), ("b", "c"), ("a", "b")],
                       "setting": ["x", None, ""], "tool": ["", "7"]}[look[0]]
            for count in range(len(answers)):
                few = ("ask", look, [(answer, GOOD) for answer in answers[:count]], BAD)
                more = ("ask", look, [(answer, GOOD) for answer in answers[:count + 1]], BAD)
                self.assert_parted(Step(few), Step(more))
                self.assert_parted(Step(few), Step(("ask", look, [(answer, GOOD) for answer in answers], SO)))

    def test_parted_where_no_case_tells(self):
        """The one world in which they part has answers that stand in no case."""
        deep, other = GOOD, BAD
        for sight in [tool(""), setting("s", "a"), setting("t"), read("a", "a"), read("b", ""), listed("c", "a"), EMPTY]:
            deep, other = ask(sight, SO, deep), ask(sight, SO, other)
        self.assert_parted(Step(deep), Step(other))
        words = ("ask", ("read", "a"), [(text, SO) for text in list("abcdefghijklmnopqrstuvwxyz") + ["aa"]], GOOD)
        self.assert_parted(Step(words), Step(("ask", ("read", "a"), words[2], SO)))
        rows = [(name + stroke,) for name in "abcdefghijklmnopqrstuvwxyz" for stroke in ("", "/")]
        for place, nothing in (("", ()), ("a/b", None)):
            cases = [(row, SO) for row in rows] + [(nothing, SO)]
            self.assert_parted(Step(("ask", ("list", place), cases, GOOD)), Step(("ask", ("list", place), cases, SO)))

    def test_parted_at_what_both_ask(self):
        """Each step rules out some answers of one look."""
        one = ("ask", ("read", "a"), [("x", GOOD), (None, GOOD)], BAD)
        other = ("ask", ("read", "a"), [("y", GOOD), (None, GOOD)], BAD)
        self.assert_parted(Step(one), Step(other))
        self.assert_parted(Step(ask(listed("a"), GOOD, BAD)), Step(ask(listed("a", "b"), BAD, GOOD)))
        self.assert_parted(Step(ask(EMPTY, BAD, GOOD)), Step(ask(listed("", "b"), BAD, GOOD)))
        texts = [("x", SO), (None, SO)]
        self.assert_alike(Step(("ask", ("read", "a"), texts, ask(listed("", "a"), GOOD, BAD))),
                          Step(ask(listed("", "a"), ("ask", ("read", "a"), [("x", SO), (None, BAD)], GOOD),
                                   ("ask", ("read", "a"), texts, BAD))))

    def test_only_orders_of_cases_unlike(self):
        one = ("ask", ("read", "a"), [("x", GOOD), (None, BAD), ("y", SO)], GOOD)
        self.assert_alike(Step(one), Step(("ask", ("read", "a"), one[2][::-1], GOOD)))


class TestPruned(unittest.TestCase):
    """[12]"""

    def assert_pruned(self, tree, left):
        step = Step(tree)
        self.assertEqual(pruned(step), Step(left), tree)
        self.assertEqual(pruned(step=pruned(step)), pruned(step))
        self.assertTrue(alike(step, pruned(step)))
        self.assertEqual(step, Step(tree))

    def test_what_no_world_takes(self):
        for tree, left in SETTLED:
            self.assert_pruned(tree, left)

    def test_what_is_needed(self):
        for tree in NEEDED:
            self.assert_pruned(tree, tree)

    def test_one_way_alone(self):
        self.assert_pruned(("ask", ("read", "a"), [], GOOD), GOOD)
        self.assert_pruned(("ask", ("read", "a"), [], ask(tool("x"), GOOD, BAD)), ask(tool("x"), GOOD, BAD))
        self.assert_pruned(("ask", ("tool",), [], TREE), TREE)
        self.assert_pruned(ask(EMPTY, TREE, BAD), BAD)
        self.assert_pruned(ask(EMPTY, ask(setting("s"), TREE, GOOD), GOOD), ask(EMPTY, ask(setting("s"), BAD, GOOD), GOOD))

    def test_ways_that_end_with_one_outcome(self):
        for sight in (read("a"), read("a", "x"), listed("a"), listed("a", "b"), EMPTY, setting("s"), tool("7")):
            self.assert_pruned(ask(sight, GOOD, GOOD), GOOD)
            self.assert_pruned(ask(sight, ask(read("b"), GOOD, GOOD), ask(read("b", "x"), GOOD, GOOD)), GOOD)
            self.assert_pruned(ask(sight, ask(read("b/c"), GOOD, GOOD), BAD), ask(sight, GOOD, BAD))
        self.assert_pruned(("ask", ("read", "a"), [(None, GOOD), ("x", GOOD), ("y", GOOD)], GOOD), GOOD)
        self.assert_pruned(("ask", ("read", "a"), [(None, GOOD), ("x", BAD)], GOOD), ("ask", ("read", "a"), [(None, GOOD), ("x", BAD)], GOOD))

    def test_like_trees_that_are_no_ends_stay(self):
        part = ask(read("b"), GOOD, BAD)
        self.assert_pruned(ask(tool("7"), part, part), ask(tool("7"), part, part))

    def test_from_the_bottom_up(self):
        low = ask(listed("", "a"), ask(read("b", "x"), BAD, GOOD), GOOD)
        self.assert_pruned(low, GOOD)
        self.assert_pruned(ask(tool("7"), low, ask(setting("s"), GOOD, BAD)), ask(tool("7"), GOOD, ask(setting("s"), GOOD, BAD)))
        self.assert_pruned(ask(listed("", "a"), ask(read("b", "x"), SO, ask(tool("7"), GOOD, BAD)), SO),
                           ask(listed("", "a"), ask(tool("7"), GOOD, BAD), SO))

    def test_some_cases_of_several(self):
        cases = [(None, SO), (("a",), GOOD), (("a/",), BAD), (("b",), SO), (("a", "b"), BAD), (("a", "b/"), SO)]
        self.assert_pruned(ask(read("c/a", "x"), ("ask", ("list", "c"), cases, BAD), SO),
                           ask(read("c/a", "x"), ("ask", ("list", "c"), [cases[1], cases[4], cases[5]], BAD), SO))
        self.assert_pruned(ask(read("c", "x"), ("ask", ("list", "c"), cases, BAD), GOOD), ask(read("c", "x"), SO, GOOD))
        self.assert_pruned(ask(listed("", "c/"), ("ask", ("list", "c"), cases, BAD), GOOD),
                           ask(listed("", "c/"), ("ask", ("list", "c"), cases[1:], BAD), GOOD))
        texts = [(None, SO), ("x", GOOD), ("y", BAD)]
        self.assert_pruned(ask(listed("c", "a"), ("ask", ("read", "c/a"), texts, SO), GOOD),
                           ask(listed("c", "a"), ("ask", ("read", "c/a"), texts[1:], SO), GOOD))

    def test_order_of_cases_stays(self):
        cases = [("y", GOOD), (None, BAD), ("x", SO)]
        tree = pruned(Step(ask(tool("7"), ("ask", ("read", "a"), cases, GOOD), GOOD))).tree()
        self.assertEqual(tree, ("ask", ("tool",), (("7", ("ask", ("read", "a"), tuple(cases), GOOD)),), GOOD))


class TestReasons(unittest.TestCase):
    """[13]"""

    def test_reasons(self):
        step = Step(TREE)
        self.assertEqual(reasons(step, step.run(World({"b": "y"}))), [(1,)])
        self.assertEqual(reasons(step=step, run=step.run(World({}))), [(0, 1)])
        self.assertEqual(reasons(step, step.run(World({"a": "x"}))), [(0,)])
        self.assertEqual(reasons(step, step.run(World({"a": "y", "b": ""}))), [(1,)])

    def test_empty_reason(self):
        for tree in (GOOD, ("ask", ("read", "a"), [], GOOD), ask(read("a"), GOOD, GOOD), ask(EMPTY, ask(read("a", "x"), BAD, GOOD), GOOD)):
            for world in (World({}), World({"a": "x"})):
                run = Step(tree).run(world)
                self.assertEqual(reasons(Step(tree), run), [()])
                for numbers in ([], (), [0][:len(run)]):
                    self.assertIs(is_reason(Step(tree), run, numbers), True)
        run = Step(TREE).run(World({}))
        self.assertIs(is_reason(Step(TREE), run, []), False)

    def test_several_reasons_in_order(self):
        tree = BAD
        for name in "dcba":
            tree = ask(setting(name, "x"), GOOD, tree)
        run = Step(tree).run(World({}))
        self.assertEqual(reasons(Step(tree), run), [(0, 1, 2, 3)])
        few = ask(setting("a"), ask(setting("b"), ask(setting("c"), GOOD, BAD), ask(setting("c"), GOOD, GOOD)),
                  ask(setting("b"), ask(setting("c"), GOOD, GOOD), BAD))
        run = Step(few).run(World({}))
        self.assertEqual(reasons(Step(few), run), [(0, 2), (1, 2)])

    def test_fewer_first(self):
        """Good exactly if c, or a and b, or b and d are lacking: as numbers 2, 0 and 1, 1 and 3."""
        def tree(seen, left):
            if not left:
                held = [name in seen for name in "abcd"]
                return GOOD if held[2] or (held[0] and held[1]) or (held[1] and held[3]) else BAD
            return ask(read(left[0]), tree(seen + left[0], left[1:]), tree(seen, left[1:]))
        step = Step(tree("", "abcd"))
        self.assertEqual(reasons(step, step.run(World({}))), [(2,), (0, 1), (1, 3)])
        self.assertEqual(reasons(step, step.run(World({"c": ""}))), [(0, 1), (1, 3)])
        self.assertEqual(reasons(step, step.run(World({"c": "", "d": ""}))), [(0, 1)])
        self.assertEqual(reasons(step, step.run(World({"b": "", "c": ""}))), [(1, 2)])
        run = step.run(World({}))
        for numbers, told in (([2], True), ([2, 2], True), ([1, 0], True), ([3, 1, 3], True), ([0, 3], False), ([1], False),
                              ((0, 1, 2, 3), True), ([3, 0, 0, 3], False), ([], False)):
            self.assertIs(is_reason(step=step, run=run, numbers=numbers), told, numbers)

    def test_what_follows_need_not_be_in_a_reason(self):
        tree = ask(listed("", "a"), ask(read("b"), ask(read("a", "x"), GOOD, BAD), BAD), BAD)
        run = Step(tree).run(World({"a": "x"}))
        self.assertEqual(reasons(Step(tree), run), [(0, 2)])
        tree = ask(read("b"), ask(listed("", "a"), GOOD, BAD), BAD)
        self.assertEqual(reasons(Step(tree), Step(tree).run(World({"a": "x"}))), [(1,)])
        tree = ask(read("a/b"), ask(read("a/c"), ask(listed("a"), GOOD, GOOD), BAD), BAD)
        self.assertEqual(reasons(Step(tree), Step(tree).run(World({}))), [(2,), (0, 1)])

    def test_no_run(self):
        step = Step(TREE)
        for run in (Run([], "good"), Run([read("a", "x")], "bad"), Run([read("a", "x")], ""), Run([read("a")], "good"),
                    Run([read("a", "x"), read("b")], "good"), Run([read("b"), read("a")], "bad"), Run([read("b")], "bad"),
                    Run([read("a"), read("b"), tool("")], "bad"), Run([setting("a", "x")], "good")):
            for numbers in ([], [0], [None], [99]):
                with self.assertRaises(NoRun) as caught:
                    is_reason(step, run, numbers)
                self.assertIsInstance(caught.exception, AgainError)
            with self.assertRaises(NoRun):
                reasons(step, run)
        with self.assertRaises(NoRun):
            reasons(Step(GOOD), Run([], "bad"))

    def test_a_run_of_the_step_however_it_came(self):
        step = Step(TREE)
        self.assertEqual(reasons(step, Run([[["read", "a"], "x"]], "good")), [(0,)])
        self.assertEqual(reasons(step, Run([read("a", "odd"), read("b", "a")], "good")), [(1,)])
        names = Step(ask(EMPTY, BAD, ask(listed("a"), GOOD, BAD)))
        self.assertEqual(reasons(names, Run([listed("", "a", "b/"), listed("a")], "good")), [(0,)])
        self.assertEqual(reasons(names, Run([listed("", "a/", "b"), listed("a", "a")], "bad")), [(0,), (1,)])

    def test_bad_index(self):
        step = Step(TREE)
        run = step.run(World({}))
        things = [thing for thing in ODD if not (isinstance(thing, int) and not isinstance(thing, bool) and thing in (0, 1))]
        for thing in things + [2, -1, -2, 10 ** 30, 0.0, 1.0, True, False, "0", (0,), [0]]:
            for numbers in ([thing], [0, 1, 0, thing, 5, None], (1, thing)):
                with self.assertRaises(BadIndex) as caught:
                    is_reason(step, run, numbers)
                self.assertIs(caught.exception.thing, thing)
        for thing in (0, 1, -1, None, False):
            with self.assertRaises(BadIndex) as caught:
                is_reason(Step(GOOD), Run([], "good"), [thing])
            self.assertIs(caught.exception.thing, thing)

    def test_nothing_passed_is_changed(self):
        step = Step(TREE)
        run = step.run(World({}))
        numbers = [1, 0, 1]
        is_reason(step, run, numbers)
        self.assertEqual(numbers, [1, 0, 1])
        reasons(step, run).clear()
        self.assertEqual(reasons(step, run), [(0, 1)])
        self.assertEqual((step, run), (Step(TREE), Step(TREE).run(World({}))))

    def test_document_says(self):
        step = Step(("ask", ("read", "a"), [("x", GOOD), (None, ("ask", ("read", "b"), [(None, BAD)], GOOD))], BAD))
        self.assertEqual([outcomes(step), reasons(step, step.run(World({"b": "y"}))), pruned(step) == step],
                         [["bad", "good"], [(0, 1)], True])


if __name__ == "__main__":
    unittest.main()
