"""Points 28 and 29: a live tool, looked at and undone."""

import random
import unittest

from drawn import mixed_space, tree_space
from odd import NO_NAMES, NO_STRINGS, ODD
from test_sights import read
from trueagain.errors import AgainError, BadChange, BadName, NoBranch, NothingToUndo, TakenBranch
from trueagain.rules import SORTS, Rule
from trueagain.steps import Run, Step
from trueagain.tools import Tool
from trueagain.worlds import World

ALL, NONE = Rule(SORTS), Rule([])
NO_KIND_OF_NAME = list(NO_STRINGS) + list(NO_NAMES)
STEP = Step(("ask", ("read", "a"), [("x", ("end", "good")), (None, ("ask", ("read", "b"), [(None, ("end", "bad"))],
                                                                        ("end", "good")))], ("end", "bad")))
HERE = World({"a": "x"}, {"s": "y"}, "7")


def shown(tool):
    """All that can be seen of a tool."""
    return (tool.world(), tool.at(), tool.branches(), tool.runs(), tool.last(), tool.is_true())


class WithTools(unittest.TestCase):

    def assert_kept(self, tool, error, call, *things):
        """Check that a call fails and leaves the tool as it was, also in what can be taken back."""
        before = shown(tool)
        with self.assertRaises(error) as caught:
            call(*things)
        self.assertEqual(shown(tool), before)
        self.assertIsInstance(caught.exception, AgainError)
        return caught.exception


class TestTools(WithTools):
    """[28]"""

    def test_new(self):
        for rule in (ALL, NONE):
            tool = Tool(step=STEP, rule=rule, world=HERE)
            self.assertEqual(shown(tool), (HERE, "main", ["main"], [], None, True))

    def test_change(self):
        tool = Tool(STEP, ALL, HERE)
        for change in (("put", "b", ""), ("drop", "a"), ["put", "a", "z"], ("set", "s", None), ("tool", ""), ("put", "a", "z"), ("set", "q", None)):
            there = tool.world().after([change])
            self.assertIsNone(tool.change(change=change))
            self.assertEqual(tool.world(), there)
        self.assertEqual((tool.world(), HERE), (World({"a": "z", "b": ""}), World({"a": "x"}, {"s": "y"}, "7")))

    def test_bad_changes(self):
        tool = Tool(STEP, ALL, HERE)
        for thing in list(ODD) + [("drop", "b"), ("put", "a/b", ""), ("put", "a", None), ("put", "", ""), ("set", "S", ""), ("tool", None)]:
            self.assertEqual(self.assert_kept(tool, BadChange, tool.change, thing).index, 0)
        tool.change(("put", "c/d", ""))
        self.assertEqual(self.assert_kept(tool, BadChange, tool.change, ("put", "c", "")).index, 0)
        self.assertEqual(tool.undo(), "change")
        self.assert_kept(tool, NothingToUndo, tool.undo)

    def test_ask(self):
        tool = Tool(STEP, ALL, HERE)
        self.assertEqual((tool.ask(), tool.ask(), tool.ask()), (("ran", "good"), ("left", "good"), ("left", "good")))
        self.assertEqual(tool.runs(), [STEP.run(HERE)])
        tool.change(("drop", "a"))
        self.assertEqual((tool.ask(), tool.ask()), (("ran", "bad"), ("left", "bad")))
        tool.change(("put", "a", "x"))
        self.assertEqual((tool.ask(), tool.runs()), (("left", "good"), [STEP.run(HERE), STEP.run(World({}))]))
        self.assertIsInstance(tool.last(), tuple)

    def test_runs_are_counted_from_the_last_one_back(self):
        tool = Tool(STEP, Rule(["lacking"]), World({}))
        self.assertEqual(tool.ask(), ("ran", "bad"))
        tool.change(("put", "b", ""))
        self.assertEqual(tool.ask(), ("ran", "good"))
        tool.change(("put", "a", "q"))
        # All that the rule keeps of the run here is nothing, so it is left out everywhere from now on.
        self.assertEqual((tool.ask(), tool.ask()), (("ran", "bad"), ("left", "bad")))
        for _ in range(2):
            tool.undo()
        self.assertEqual(tool.undo(), "change")
        self.assertEqual(tool.ask(), ("left", "good"))
        tool = Tool(STEP, Rule(["tool"]), World({}))
        self.assertEqual((tool.ask(), tool.change(("put", "a", "x")), tool.ask()), (("ran", "bad"), None, ("left", "bad")))
        self.assertIs(tool.is_true(), False)

    def test_branches(self):
        tool = Tool(STEP, ALL, HERE)
        self.assertIsNone(tool.branch(name="try"))
        self.assertEqual((tool.at(), tool.branches(), tool.world()), ("try", ["main", "try"], HERE))
        tool.change(("drop", "a"))
        self.assertIsNone(tool.go(name="main"))
        self.assertEqual((tool.at(), tool.branches(), tool.world()), ("main", ["main", "try"], HERE))
        tool.branch("again")
        tool.change(("put", "a", "q"))
        tool.go("try")
        self.assertEqual((tool.at(), tool.branches(), tool.world()), ("try", ["main", "try", "again"], World({}, {"s": "y"}, "7")))
        tool.go("again")
        tool.go("again")
        self.assertEqual((tool.at(), tool.world()), ("again", World({"a": "q"}, {"s": "y"}, "7")))
        tool.branch("a")
        self.assertEqual((tool.branches(), tool.world()), (["main", "try", "again", "a"], World({"a": "q"}, {"s": "y"}, "7")))

    def test_runs_are_noted_for_all_branches_together(self):
        tool = Tool(STEP, ALL, HERE)
        tool.branch("try")
        self.assertEqual(tool.ask(), ("ran", "good"))
        tool.go("main")
        self.assertEqual((tool.ask(), tool.change(("put", "a", "q")), tool.ask()), (("left", "good"), None, ("ran", "bad")))
        tool.go("try")
        self.assertEqual((tool.last(), tool.is_true(), tool.ask(), len(tool.runs())), (("ran", "bad"), False, ("left", "good"), 2))

    def test_bad_names(self):
        tool = Tool(STEP, ALL, HERE)
        tool.branch("try")
        for thing in NO_KIND_OF_NAME:
            for call in (tool.branch, tool.go):
                self.assertIs(self.assert_kept(tool, BadName, call, thing).name, thing)

    def test_branches_that_are_there_or_not(self):
        tool = Tool(STEP, ALL, HERE)
        tool.branch("try")
        for name in ("main", "try"):
            self.assertEqual(self.assert_kept(tool, TakenBranch, tool.branch, name).name, name)
        for name in ("q", "mai", "abcdefgh", "a"):
            self.assertEqual(self.assert_kept(tool, NoBranch, tool.go, name).name, name)
        tool.undo()
        self.assertEqual(self.assert_kept(tool, NoBranch, tool.go, "try").name, "try")
        self.assert_kept(tool, NothingToUndo, tool.undo)

    def test_none_equals_an_object_of_another_kind(self):
        tool = Tool(STEP, ALL, HERE)
        for thing in (None, STEP, HERE, (STEP, ALL, HERE), [], "main"):
            self.assertFalse(tool == thing)


class TestUndo(WithTools):
    """[29]"""

    def test_last_and_is_true(self):
        tool = Tool(STEP, Rule(["contents"]), HERE)
        self.assertEqual((tool.last(), tool.is_true()), (None, True))
        tool.change(("put", "a", "q"))
        self.assertEqual((tool.last(), tool.is_true()), (None, True))
        self.assertEqual((tool.ask(), tool.last(), tool.is_true()), (("ran", "bad"), ("ran", "bad"), True))
        tool.change(("put", "a", "x"))
        self.assertEqual((tool.last(), tool.is_true()), (("ran", "bad"), False))
        tool.change(("drop", "a"))
        self.assertEqual((tool.last(), tool.is_true()), (("ran", "bad"), True))
        self.assertEqual((tool.ask(), tool.ask(), tool.last()), (("ran", "bad"), ("left", "bad"), ("left", "bad")))
        tool.change(("put", "b", ""))
        self.assertEqual((tool.ask(), tool.is_true()), (("left", "bad"), False))

    def test_each_kind_of_deed_down_to_nothing(self):
        tool = Tool(STEP, ALL, HERE)
        seen, words = [shown(tool)], []
        for word, call, thing in (("ask", tool.ask, ()), ("change", tool.change, (("drop", "a"),)), ("branch", tool.branch, ("try",)),
                                  ("ask", tool.ask, ()), ("change", tool.change, (("put", "b", ""),)), ("go", tool.go, ("main",)),
                                  ("go", tool.go, ("main",)), ("ask", tool.ask, ()), ("change", tool.change, (("put", "a", "x"),)),
                                  ("ask", tool.ask, ()), ("branch", tool.branch, ("more",)), ("change", tool.change, (("set", "q", None),)),
                                  ("go", tool.go, ("try",)), ("ask", tool.ask, ())):
            call(*thing)
            words.append(word)
            seen.append(shown(tool))
        while words:
            self.assertEqual(shown(tool), seen.pop())
            self.assertEqual(tool.undo(), words.pop())
        self.assertEqual(shown(tool), seen[0])
        for _ in range(2):
            self.assert_kept(tool, NothingToUndo, tool.undo)
        self.assertEqual((tool.ask(), tool.undo(), shown(tool)), (("ran", "good"), "ask", seen[0]))

    def test_undone_runs_are_noted_no_longer(self):
        tool = Tool(STEP, ALL, HERE)
        tool.ask()
        tool.undo()
        self.assertEqual((tool.runs(), tool.last(), tool.ask()), ([], None, ("ran", "good")))
        tool.ask()
        self.assertEqual((tool.last(), tool.undo(), tool.last(), tool.runs()), (("left", "good"), "ask", ("ran", "good"), [STEP.run(HERE)]))

    def test_copies_go_on_apart(self):
        tool = Tool(STEP, ALL, HERE)
        tool.ask()
        tool.branch("try")
        other = tool.copy()
        self.assertIsInstance(other, Tool)
        before = shown(tool)
        self.assertEqual(shown(other), before)
        other.change(("drop", "a"))
        other.ask()
        other.branch("more")
        self.assertEqual(shown(tool), before)
        self.assertEqual([other.undo() for _ in range(4)], ["branch", "ask", "change", "branch"])
        self.assertEqual(shown(tool), before)
        tool.go("main")
        tool.change(("put", "a", "q"))
        third = tool.copy()
        self.assertEqual([tool.undo() for _ in range(4)], ["change", "go", "branch", "ask"])
        self.assert_kept(tool, NothingToUndo, tool.undo)
        self.assertEqual((other.undo(), third.at(), third.world().files()), ("ask", "main", {"a": "q"}))
        self.assertEqual([third.undo() for _ in range(4)], ["change", "go", "branch", "ask"])
        self.assertEqual((shown(third), shown(other)), (shown(tool), shown(tool)))
        self.assertEqual(shown(Tool(STEP, NONE, HERE).copy().copy()), (HERE, "main", ["main"], [], None, True))

    def test_copies_keep_step_and_rule(self):
        for rule in (ALL, NONE):
            copied = Tool(STEP, rule, HERE).copy()
            self.assertEqual((copied.ask(), copied.change(("drop", "a")), copied.ask()[0]), (("ran", "good"), None, "ran" if rule == ALL else "left"))

    def test_lists_are_the_callers_own(self):
        tool = Tool(STEP, ALL, HERE)
        tool.ask()
        tool.branches().append("q")
        tool.runs().clear()
        change = ["put", "b", "x"]
        tool.change(change)
        change[2] = "y"
        self.assertEqual((tool.branches(), tool.runs(), tool.world().files()), (["main"], [Run([read("a", "x")], "good")], {"a": "x", "b": "x"}))
        self.assertEqual(HERE, World({"a": "x"}, {"s": "y"}, "7"))

    def test_document_says(self):
        tool = Tool(STEP, Rule(["contents"]), World({"a": "x"}))
        self.assertEqual([tool.ask(), tool.change(("put", "a", "y")), tool.ask(), tool.change(("drop", "a")), tool.ask(), tool.is_true(),
                          tool.undo()], [("ran", "good"), None, ("ran", "bad"), None, ("ran", "bad"), True, "ask"])


class Replayed:
    """What a tool shall be, found anew from all deeds that were not taken back."""

    def __init__(self, step, rule, world, deeds=()):
        self.step, self.rule, self.world, self.deeds = step, rule, world, list(deeds)

    def shown(self):
        worlds, at, runs, last = {"main": self.world}, "main", [], None
        for word, thing in self.deeds:
            if word == "change":
                worlds[at] = worlds[at].after([thing])
            elif word == "ask":
                found = [run.outcome for run in runs if all(worlds[at].answer(look) == answer for look, answer in self.rule.note(run))]
                if found:
                    last = ("left", found[-1])
                else:
                    runs = runs + [self.step.run(worlds[at])]
                    last = ("ran", runs[-1].outcome)
            else:
                if word == "branch":
                    worlds[thing] = worlds[at]
                at = thing
        true = last is None or last[1] == self.step.run(worlds[at]).outcome
        return (worlds[at], at, list(worlds), runs, last, true)


class TestDrawnTools(unittest.TestCase):

    def test_drawn_deeds(self):
        self.draw = random.Random("tools")
        self.words = {"left": 0, "ran": 0, "change": 0, "ask": 0, "branch": 0, "go": 0, False: 0, True: 0}
        for space in (tree_space(), mixed_space()):
            for at in range(40):
                start = (space.step(self.draw, 1 + at % 4), Rule(self.draw.sample(SORTS, self.draw.randint(0, 6))), space.world(self.draw))
                pairs = [(Tool(*start), Replayed(*start))]
                for _ in range(60):
                    tool, told = self.draw.choice(pairs)
                    if self.draw.random() < 0.05:
                        pairs.append((tool.copy(), Replayed(*start, told.deeds)))
                    self.do(space, tool, told)
                    for tool, told in pairs:
                        self.assertEqual(shown(tool), told.shown())
                        self.words[tool.is_true()] += 1
        self.assertGreater(min(self.words.values()), 50, self.words)

    def do(self, space, tool, told):
        word = self.draw.choice(["change", "change", "ask", "ask", "branch", "go", "undo", "undo"])
        if word == "undo":
            if told.deeds:
                word = tool.undo()
                self.assertEqual(word, told.deeds.pop()[0])
                self.words[word] += 1
            else:
                self.assertRaises(NothingToUndo, tool.undo)
        elif word == "change":
            self.do_change(tool, told, self.drawn_change(space, tool.world()))
        elif word == "ask":
            told.deeds.append((word, None))
            answer = tool.ask()
            self.assertEqual(answer, told.shown()[4])
            self.words[answer[0]] += 1
        else:
            self.do_branch(tool, told, word, self.draw.choice(["main", "a", "b", "c", "d"]))

    def drawn_change(self, space, world):
        path = self.draw.choice(["a", "b", "a/a", "a/b", "b/a"] + list(world.files()))
        return self.draw.choice([("put", path, self.draw.choice("xy")), ("drop", path), ("set", "s", self.draw.choice([None, "x", "y"])),
                                 ("tool", self.draw.choice(["", "x"]))])

    def do_change(self, tool, told, change):
        try:
            tool.world().after([change])
        except BadChange:
            self.assertRaises(BadChange, tool.change, change)
        else:
            told.deeds.append(("change", change))
            self.assertIsNone(tool.change(change))

    def do_branch(self, tool, told, word, name):
        there = name in told.shown()[2]
        call, error = (tool.branch, TakenBranch) if word == "branch" else (tool.go, NoBranch)
        if there == (word == "branch"):
            self.assertRaises(error, call, name)
        else:
            told.deeds.append((word, name))
            self.assertIsNone(call(name))


if __name__ == "__main__":
    unittest.main()
