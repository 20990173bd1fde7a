"""Works, trials, tools and texts of runs as large as callers pass them, and somewhat larger."""

import random
import unittest

from test_sights import read, setting, tool
from test_sizes import NAMES, PATHS, drawn_tree, full_world
from timed import Timed
from trueagain.rules import SORTS, Rule
from trueagain.run_texts import read_run, write_run
from trueagain.steps import Run, Step
from trueagain.telling import fitting, surely, tests
from trueagain.tools import Tool
from trueagain.works import Work, again_needed
from trueagain.worlds import World

ALL = Rule(SORTS)
STEPS = "stuvwxyz"


class TestSizes(Timed):

    def steps(self, draw, count):
        return [Step(drawn_tree(draw, 400, 8, ["x", "y", "good"])[0]) for _ in range(count)]

    def test_works_of_eight_steps_of_400_asks(self):
        draw = random.Random("works")
        work = self.soon(Work, list(zip(STEPS, self.steps(draw, 8))))
        worlds = [full_world(), full_world(110), World({}), World({"a": "x", "b/c": "y"}, {"s": "y"}, "x")]
        for before in worlds:
            runs = self.soon(work.run, before)
            for world in worlds:
                told = self.soon(work.again, runs, world, ALL)
                self.assertEqual([run for _, run in told], self.soon(work.run, world))
                words = self.soon(again_needed, work.names(), runs, world)
                for word, (done, _) in zip(words, told):
                    self.assertIn((word, done), [("left", "left"), ("run", "ran"), ("open", "left"), ("open", "ran")])

    def test_twenty_steps_that_see_one_anothers_outcomes(self):
        for count in (5, 8, 20):
            names = NAMES[:count]
            away = [Run([tool("8")], "x")]
            each = [Run([setting(name, str(at)) for name in names[:at]], "x") for at in range(1, count)]
            self.assertEqual(self.soon(again_needed, names, away + each, World({})), ["run", "open"] + ["open"] * (count - 2))
            # Each sees what the others say when their runs hold, and the last one sees another text of one of them.
            chain = [Run([setting(name, "x") for name in names[:at]], "x") for at in range(1, count - 1)]
            last = Run([setting(name, "x") for name in names[:-2]] + [setting(names[-2], "y")], "x")
            self.assertEqual(self.soon(again_needed, names, away + chain + [last], World({})), ["run"] + ["open"] * (count - 2) + ["run"])

    def test_twenty_trials(self):
        draw = random.Random("trials")
        steps = self.steps(draw, 4)
        worlds = [full_world(), full_world(110), World({}), World({"a": "x", "b/c": "y"}, {"s": "y"}, "x")]
        rule = Rule(["contents", "names", "tool"])
        trials = []
        for _ in range(20):
            run, world = draw.choice(steps).run(draw.choice(worlds)), draw.choice(worlds)
            trials.append((run, world, rule.leaves(run, world)))
        self.assertIn(rule, self.soon(fitting, trials))
        kept, never = self.soon(surely, trials)
        self.assertTrue(all(word in rule for word in kept) and not any(word in rule for word in never))

    def test_worlds_that_tell_rules_apart(self):
        for files in (40, 110):
            world = full_world(files)
            looks = [("list", ""), ("list", "a/b"), ("read", "a/b/c/d"), ("read", "a"), ("list", "q/r"), ("read", "a/b/c/d/e/aa"),
                     ("read", "q"), ("setting", "s"), ("setting", "q"), ("tool",), ("list", "a/b/c"), ("list", "b")]
            run = Run([(look, world.answer(look)) for look in looks], "good")
            worlds = self.soon(tests, run, world)
            self.assertLessEqual(len(worlds), 12)
            self.assertEqual([ALL.leaves(run, there) for there in worlds], [False] * len(worlds))
            for word in ("names", "setting", "tool"):
                told = [(~Rule([word])).leaves(run, there) for there in worlds]
                self.assertIn(True, told)

    def test_a_tool_with_a_step_of_400_asks(self):
        draw = random.Random("tool")
        live = Tool(self.steps(draw, 1)[0], ALL, full_world())
        seen = []
        for at in range(200):
            seen.append((live.world(), live.at(), len(live.runs()), live.last()))
            self.soon(live.change, draw.choice([("put", "q/" + draw.choice(PATHS[:3]), str(at)), ("tool", draw.choice("xyz")),
                                                ("set", draw.choice("stuv"), draw.choice("xyz"))]))
            seen.append((live.world(), live.at(), len(live.runs()), live.last()))
            if at % 20 == 0:
                self.soon(live.branch, NAMES[at // 20])
                seen.append((live.world(), live.at(), len(live.runs()), live.last()))
            self.soon(live.ask)
        self.assertEqual(len(live.branches()), 11)
        other = self.soon(live.copy)
        for world, at, count, last in reversed(seen):
            self.soon(live.undo)
            self.assertEqual((live.world(), live.at(), len(live.runs()), live.last()), (world, at, count, last))
        self.assertEqual((len(other.branches()), other.undo(), live.branches()), (11, "ask", ["main"]))

    def test_long_texts(self):
        world = full_world(110)
        sights = [(look, world.answer(look)) for look in [("list", ""), ("list", "a/b"), ("list", "c/a"), ("tool",)]]
        sights += [read("q/" + name) for name in NAMES] + [setting(name + "s", name * 1000) for name in NAMES]
        run = Run(sights, "good" * 1000)
        text = self.soon(write_run, run)
        self.assertEqual((self.soon(read_run, text), text.count("\n")), (run, len(sights)))


if __name__ == "__main__":
    unittest.main()
