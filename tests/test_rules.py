"""Points 16 to 18: rules, rules together, what a rule misses."""

import unittest
from itertools import combinations, permutations

from odd import ODD
from test_sights import EMPTY, listed, read, setting, tool
from trueagain.errors import AgainError, BadSort, NotTrue
from trueagain.rules import Fault, Rule, loose, wrong
from trueagain.sights import follows
from trueagain.steps import Run, Step
from trueagain.worlds import World, changes_between

SORTS = ["contents", "lacking", "names", "nofolder", "setting", "tool"]
ALL_ROWS = [list(row) for count in range(7) for row in combinations(SORTS, count)]
SIGHTS = [read("a/b", "x"), read("d"), listed("", "a/", "c"), listed("e"), setting("s", "y"), setting("t"), tool("7")]
RUN = Run(SIGHTS, "good")
WORLD = World({"a/b": "x", "c": ""}, {"s": "y", "u": "v"}, "7")
OF_SORT = {"contents": SIGHTS[:1], "lacking": SIGHTS[1:2], "names": SIGHTS[2:3], "nofolder": SIGHTS[3:4], "setting": SIGHTS[4:6],
           "tool": SIGHTS[6:]}


class TestRules(unittest.TestCase):
    """[16]"""

    def test_sorts(self):
        for row in ALL_ROWS:
            for told in (row, tuple(row), row[::-1], row[2:] + row[:2]):
                rule = Rule(sorts=told)
                self.assertEqual(rule.sorts(), row)
                self.assertEqual([word for word in rule], row)
                self.assertEqual(len(rule), len(row))
        for row in permutations(SORTS):
            self.assertEqual(Rule(row).sorts(), SORTS)

    def test_bad_sorts(self):
        near = ["Contents", "content", "contents ", " tool", "", "read", "list", "folder", "names\n", b"tool", ["tool"], ("tool",), "TOOL"]
        for thing in list(ODD) + near:
            for sorts in ([thing], ["tool", thing, None, "tool"], ("names", "lacking", "tool", thing)):
                with self.assertRaises(BadSort) as caught:
                    Rule(sorts)
                self.assertIs(caught.exception.thing, thing)
                self.assertIsInstance(caught.exception, AgainError)

    def test_sorts_that_stood_before(self):
        for word in SORTS:
            again = "".join(list(word))
            with self.assertRaises(BadSort) as caught:
                Rule([word, again])
            self.assertIs(caught.exception.thing, again)
            with self.assertRaises(BadSort) as caught:
                Rule(SORTS + [again, None])
            self.assertIs(caught.exception.thing, again)
        with self.assertRaises(BadSort) as caught:
            Rule(["tool", "names", "names", "tool"])
        self.assertEqual(caught.exception.thing, "names")

    def test_note(self):
        for row in ALL_ROWS:
            note = [sight for sight in SIGHTS if any(sight in OF_SORT[word] for word in row)]
            self.assertEqual(Rule(row).note(run=RUN), note)
            self.assertEqual(Rule(row).note(Run(SIGHTS[::-1], "bad")), note[::-1])
            self.assertEqual(Rule(row).note(Run([], "good")), [])
        for sight, word in ((EMPTY, "names"), (read("a", ""), "contents"), (setting("s"), "setting"), (tool(""), "tool"),
                            (listed("a", "b"), "names"), (setting("s", ""), "setting")):
            for other in SORTS:
                self.assertEqual(Rule([other]).note(Run([sight], "good")), [sight] if other == word else [])

    def test_leaves(self):
        behind = [("put", "a/b", "y"), ("put", "d", ""), ("put", "f", ""), ("put", "e/f", ""), ("set", "s", None), ("set", "t", ""),
                  ("tool", ""), ("set", "u", None), ("put", "c", "z")]
        for change in behind:
            world = WORLD.after([change])
            for row in ALL_ROWS:
                rule = Rule(row)
                self.assertIs(rule.leaves(run=RUN, world=world), all(world.answer(look) == answer for look, answer in rule.note(RUN)))
                self.assertIs(rule.leaves(Run([], ""), world), True)
        self.assertIs(Rule(SORTS).leaves(RUN, WORLD), True)
        self.assertIs(Rule(SORTS).leaves(RUN, WORLD.after([("tool", "8")])), False)
        self.assertIs(Rule(SORTS[:5]).leaves(RUN, WORLD.after([("tool", "8")])), True)
        self.assertIs(Rule([]).leaves(RUN, World({})), True)

    def test_lists_are_the_callers_own(self):
        sorts = ["tool", "names"]
        rule = Rule(sorts)
        self.assertEqual(sorts, ["tool", "names"])
        sorts.append("setting")
        rule.sorts().append("setting")
        rule.note(RUN).clear()
        self.assertEqual((rule.sorts(), len(rule.note(RUN))), (["names", "tool"], 2))


class TestRulesTogether(unittest.TestCase):
    """[17]"""

    def test_signs(self):
        for row in ALL_ROWS:
            one = Rule(row)
            self.assertEqual((~one).sorts(), [word for word in SORTS if word not in row])
            self.assertEqual(~~one, one)
            for beside in ALL_ROWS:
                other = Rule(beside)
                self.assertEqual((one | other).sorts(), [word for word in SORTS if word in row or word in beside])
                self.assertEqual((one & other).sorts(), [word for word in SORTS if word in row and word in beside])
                self.assertIs(one.keeps(other), set(beside) <= set(row))
                self.assertIs(one == other, row == beside)
                self.assertIs(one != other, row != beside)
            self.assertEqual((one.sorts(), len(one)), (row, len(row)))
        self.assertIsInstance(Rule([]) | Rule([]), Rule)
        self.assertIsInstance(Rule([]) & Rule([]), Rule)
        self.assertIsInstance(~Rule([]), Rule)
        self.assertIs(Rule([]).keeps(other=Rule([])), True)

    def test_signs_that_change_the_name_only(self):
        one = other = Rule(["tool"])
        one |= Rule(["names"])
        self.assertEqual((one.sorts(), other.sorts()), (["names", "tool"], ["tool"]))
        one &= Rule(["names"])
        self.assertEqual((one.sorts(), other.sorts()), (["names"], ["tool"]))

    def test_kept_sorts(self):
        for row in ALL_ROWS:
            for word in SORTS:
                self.assertIs(word in Rule(row), word in row)
                self.assertIs("".join(list(word)) in Rule(row), word in row)
        for thing in list(ODD) + ["read", "content", b"tool", ["tool"], ("tool",), Rule(["tool"])]:
            self.assertIs(thing in Rule(SORTS), False)
            self.assertIs(thing in Rule([]), False)

    def test_equal(self):
        self.assertEqual(Rule(["tool", "names"]), Rule(("names", "tool")))
        for thing in (["tool"], ("tool",), "tool", None, 1, RUN, {"tool"}):
            self.assertFalse(Rule(["tool"]) == thing)
            self.assertTrue(Rule(["tool"]) != thing)
        self.assertFalse(Rule([]) == [])


class TestLoose(unittest.TestCase):
    """[18]: loose."""

    def test_loose(self):
        self.assertEqual(loose(rule=Rule([]), run=RUN), SIGHTS)
        self.assertEqual(loose(Rule(SORTS), RUN), [])
        self.assertEqual(loose(Rule(["names"]), RUN), [SIGHTS[0]] + SIGHTS[4:])
        self.assertEqual(loose(Rule(["contents", "nofolder"]), RUN), [SIGHTS[1], SIGHTS[2]] + SIGHTS[4:])
        self.assertEqual(loose(Rule(["setting", "tool"]), Run(SIGHTS[::-1], "")), SIGHTS[3::-1])
        for row in ALL_ROWS:
            self.assertEqual(loose(Rule(row), Run([], "good")), [])
            note = Rule(row).note(RUN)
            self.assertEqual(loose(Rule(row), RUN), [sight for sight in SIGHTS if not follows(note, sight)])
        loose(Rule([]), RUN).clear()
        self.assertEqual(RUN.sights, tuple(SIGHTS))


class TestWrong(unittest.TestCase):
    """[18]: wrong."""

    def assert_wrong(self, sorts, run, world, count):
        rule = Rule(sorts)
        fault = wrong(rule=rule, run=run, world=world)
        self.assertIsInstance(fault, Fault)
        self.assertEqual(len(fault.changes), count)
        self.assertEqual(world.after(fault.changes), fault.behind)
        self.assertEqual(len(changes_between(world, fault.behind)), count)
        self.assertTrue(rule.leaves(run, fault.behind))
        self.assertFalse(run.holds(fault.behind))
        self.assertIsInstance(fault.step, Step)
        self.assertEqual(fault.step.run(world), run)
        self.assertNotEqual(fault.step.run(fault.behind).outcome, run.outcome)

    def test_none_missed(self):
        for run, world in ((RUN, WORLD), (Run([], "good"), World({}))):
            self.assertIsNone(wrong(Rule(SORTS), run, world))
        self.assertIsNone(wrong(Rule([]), Run([], "good"), WORLD))
        self.assertIsNone(wrong(Rule(["names"]), Run([listed("", "a"), read("b"), listed("c")], ""), World({"a": "x"})))
        self.assertIsNone(wrong(Rule(["contents"]), Run([read("a/b", ""), read("a"), listed("a/b")], ""), World({"a/b": ""})))

    def test_one_change(self):
        for sorts in ([], SORTS[:4], SORTS[:4] + ["tool"], SORTS[:4] + ["setting"]):
            self.assert_wrong(sorts, RUN, WORLD, 1)
        for sight in SIGHTS:
            self.assert_wrong([], Run([sight], "good"), WORLD, 1)
            others = [word for word in SORTS if sight not in OF_SORT[word]]
            if follows(Rule(others).note(RUN), sight):
                self.assertIsNone(wrong(Rule(others), RUN, WORLD))
            else:
                self.assert_wrong(others, RUN, WORLD, 1)
        for text in ("", "a", "b", "good"):
            world = World({"a": text}, {"a": text}, text)
            for sight in (read("a", text), setting("a", text), tool(text)):
                self.assert_wrong([], Run([sight], text), world, 1)

    def test_a_file_where_files_are_beneath(self):
        world = World({"a/b": "", "a/c/d": "", "a/c/e": "", "b": "x", "ab/c": ""})
        self.assert_wrong([], Run([read("a")], "good"), world, 4)
        self.assert_wrong(["contents", "names", "nofolder"], Run([read("a"), read("b", "x"), listed("b")], "good"), world, 4)
        self.assert_wrong([], Run([read("a/c")], "good"), world, 3)
        self.assert_wrong([], Run([read("a"), read("a/c")], "good"), world, 3)
        self.assert_wrong([], Run([read("a"), read("a/c"), read("ab")], "good"), world, 2)
        self.assert_wrong([], Run([read("a"), read("a/f")], "good"), world, 1)
        self.assert_wrong(["names"], Run([read("a"), read("b", "x")], "good"), world, 1)
        self.assert_wrong(["contents"], Run([read("a"), read("b", "x")], "good"), world, 4)

    def test_a_file_where_one_is_above(self):
        world = World({"a": "x", "b": ""})
        self.assert_wrong([], Run([read("a/b/c")], "good"), world, 2)
        self.assert_wrong([], Run([read("a/b")], ""), world, 2)
        self.assert_wrong([], Run([listed("a/b")], "good"), world, 2)
        self.assert_wrong([], Run([listed("a")], "good"), world, 2)
        self.assert_wrong(["names"], Run([listed("a"), read("a/b")], "good"), world, 2)
        self.assert_wrong([], Run([listed("a"), read("c")], "good"), world, 1)
        self.assert_wrong(["lacking"], Run([listed("a"), read("c"), read("a/a"), read("a/b")], "good"), world, 2)

    def test_new_names_are_none_that_the_run_tells_of(self):
        letters = "abcdefghijklmnopqrstuvwxyz"
        world = World({"q/zz/b": "", "z": ""})
        lacking = [read(ahead + letter) for ahead in ("", "a/", "q/") for letter in letters if ahead + letter != "z"]
        for sight in (listed("", "q/", "z"), listed("a"), listed("q", "zz/"), listed("q/zz", "b")):
            self.assert_wrong(["lacking"], Run(lacking + [sight], "good"), world, 1)
        self.assert_wrong(["lacking", "nofolder"], Run([EMPTY] + [read(letter) for letter in letters], "b"), World({}), 1)
        nofolders = [listed(letter) for letter in letters]
        self.assert_wrong(["nofolder"], Run([EMPTY] + nofolders, "b"), World({}), 1)

    def test_what_follows_is_not_lost(self):
        self.assertIsNone(wrong(Rule(["lacking"]), Run([read("a")], ""), World({})))
        self.assert_wrong(["lacking"], Run([read("a"), setting("a")], ""), World({}), 1)
        self.assert_wrong(["nofolder"], Run([listed("a"), read("a/b"), read("a")], ""), World({}), 1)
        self.assert_wrong(["nofolder"], Run([listed("a"), read("a/b"), read("b")], ""), World({"a": "", "b/c": "", "b/d": ""}), 3)

    def test_not_true(self):
        worlds = [WORLD.after(changes) for changes in ([("put", "a/b", "")], [("put", "d", "")], [("drop", "c")], [("put", "e/f", "")],
                                                       [("set", "s", None)], [("set", "t", "")], [("tool", "")])]
        for rule in (Rule([]), Rule(SORTS), Rule(["names"])):
            for world in worlds + [World({}), World({"e": "", "a/b": "x"})]:
                untrue = [index for index, (look, answer) in enumerate(SIGHTS) if world.answer(look) != answer]
                with self.assertRaises(NotTrue) as caught:
                    wrong(rule, RUN, world)
                self.assertEqual(caught.exception.index, untrue[0])
                self.assertIsInstance(caught.exception, AgainError)

    def test_faults(self):
        changes, behind, step = (("tool", "8"),), WORLD, Step(("end", "good"))
        fault = Fault(changes=changes, behind=behind, step=step)
        self.assertEqual((fault.changes, fault.behind, fault.step), (changes, behind, step))
        for thing in (None, changes, (changes, behind, step)):
            self.assertFalse(fault == thing)

    def test_nothing_passed_is_changed(self):
        fault = wrong(Rule([]), RUN, WORLD)
        self.assertEqual(RUN, Run(SIGHTS, "good"))
        self.assertEqual(WORLD, World({"a/b": "x", "c": ""}, {"s": "y", "u": "v"}, "7"))
        self.assertIsInstance(fault.changes, tuple)

    def test_document_says(self):
        step = Step(("ask", ("read", "a"), [("x", ("end", "good")), (None, ("ask", ("read", "b"), [(None, ("end", "bad"))],
                                                                                ("end", "good")))], ("end", "bad")))
        told = wrong(Rule([]), Run([(("read", "a/b"), "x")], "good"), World({"a/b": "x"}))
        self.assertEqual([loose(Rule(["contents"]), step.run(World({}))), wrong(Rule(["lacking"]), step.run(World({})), World({})),
                          len(told.changes)], [[(("read", "a"), None), (("read", "b"), None)], None, 1])


if __name__ == "__main__":
    unittest.main()
