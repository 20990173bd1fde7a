"""Point 27: told back which rule a tool has, and worlds that tell rules apart."""

import random
import unittest
from itertools import combinations

from drawn import chain_space, mixed_space, tree_space
from test_sights import EMPTY, listed, read, setting, tool
from trueagain.errors import AgainError, NoRule, NotTrue
from trueagain.rules import SORTS, Rule
from trueagain.sights import follows
from trueagain.steps import Run, Step
from trueagain.telling import fitting, surely, tests
from trueagain.worlds import World

ORDER = ["contents", "lacking", "names", "nofolder", "setting", "tool"]
ALL_ROWS = [list(row) for count in range(7) for row in combinations(ORDER, count)]
RULES = [Rule(row) for row in ALL_ROWS]
STEP = Step(("ask", ("read", "a"), [("x", ("end", "good")), (None, ("ask", ("read", "b"), [(None, ("end", "bad"))],
                                                                        ("end", "good")))], ("end", "bad")))
SIGHTS = [read("a/b", "x"), read("d"), listed("", "a/", "c"), listed("e"), setting("s", "y"), setting("t"), tool("7")]
RUN = Run(SIGHTS, "good")
WORLD = World({"a/b": "x", "c": ""}, {"s": "y", "u": "v"}, "7")


class TestFitting(unittest.TestCase):
    """[27]: fitting and surely."""

    def test_no_trials(self):
        for trials in ([], ()):
            self.assertEqual([rule.sorts() for rule in fitting(trials=trials)], ALL_ROWS)
            self.assertEqual(surely(trials=trials), ([], []))
        self.assertIsInstance(surely([]), tuple)
        self.assertIsInstance(fitting([])[0], Rule)

    def test_one_trial(self):
        away = WORLD.after([("tool", "8")])
        self.assertEqual([rule.sorts() for rule in fitting([(RUN, away, True)])], [row for row in ALL_ROWS if "tool" not in row])
        self.assertEqual([rule.sorts() for rule in fitting([(RUN, away, False)])], [row for row in ALL_ROWS if "tool" in row])
        self.assertEqual((surely([(RUN, away, True)]), surely([(RUN, away, False)])), (([], ["tool"]), (["tool"], [])))
        self.assertEqual(surely([(RUN, World({}), True)]), ([], ["contents", "names", "setting", "tool"]))
        self.assertEqual(surely([(RUN, World({}), False)]), ([], []))
        self.assertEqual(fitting([(RUN, WORLD, True)]), RULES)

    def test_several_trials(self):
        trials = [(RUN, WORLD.after([("tool", "8")]), False), (RUN, WORLD.after([("put", "d", "")]), True),
                  [RUN, WORLD.after([("put", "e/f", "")]), False]]
        self.assertEqual(surely(trials), (["nofolder", "tool"], ["lacking", "names"]))
        self.assertEqual([rule.sorts() for rule in fitting(trials)], [["nofolder", "tool"], ["contents", "nofolder", "tool"],
                                                                     ["nofolder", "setting", "tool"], ["contents", "nofolder", "setting", "tool"]])
        trials.append((RUN, WORLD.after([("set", "s", None)]), True))
        self.assertEqual(surely(trials), (["nofolder", "tool"], ["lacking", "names", "setting"]))

    def test_no_rule(self):
        for trials in ([(RUN, WORLD, False)], [(Run([], ""), World({}), False)], [(RUN, World({}), True), (RUN, World({}), False)],
                       [(RUN, WORLD.after([("tool", "8")]), True), (RUN, WORLD.after([("tool", "")]), False)]):
            self.assertEqual(fitting(trials), [])
            with self.assertRaises(NoRule) as caught:
                surely(trials)
            self.assertIsInstance(caught.exception, AgainError)

    def test_drawn_trials_against_all_rules(self):
        draw = random.Random("trials")
        spaces = [tree_space(), mixed_space()]
        counts = [0, 0]
        for at in range(300):
            space, rule = spaces[at % 2], draw.choice(RULES)
            trials = []
            for _ in range(draw.randint(0, 8)):
                run, world = space.step(draw, 3).run(space.world(draw)), space.world(draw)
                trials.append((run, world, rule.leaves(run, world) != (draw.random() < 0.1)))
            fit = [one for one in RULES if all(one.leaves(run, world) is left for run, world, left in trials)]
            self.assertEqual(fitting(trials), fit)
            counts[fit == []] += 1
            if fit:
                self.assertEqual(surely(trials), ([word for word in ORDER if all(word in one for one in fit)],
                                                  [word for word in ORDER if not any(word in one for one in fit)]))
            else:
                self.assertRaises(NoRule, surely, trials)
        self.assertGreater(min(counts), 20)

    def test_lists_are_the_callers_own(self):
        trials = [(RUN, WORLD, True)]
        fitting(trials).clear()
        for told in surely(trials):
            told.append("q")
        self.assertEqual((len(fitting(trials)), surely(trials), len(trials)), (64, ([], []), 1))

    def test_document_says(self):
        self.assertEqual([len(fitting([])), surely([(STEP.run(World({})), World({"a": "x"}), True)])], [64, ([], ["lacking"])])


class TestTests(unittest.TestCase):
    """[27]: tests."""

    def assert_tells_apart(self, run, world, same):
        """Check that worlds tell rules apart just if they do not leave out in the same worlds."""
        worlds = tests(run=run, world=world)
        self.assertIsInstance(worlds, list)
        self.assertLessEqual(len(worlds), len(run))
        told = {}
        for rule in RULES:
            kept = tuple(word for word in rule if any(sight in Rule([word]).note(run) for sight in run.sights))
            told.setdefault(kept, tuple(rule.leaves(run, there) for there in worlds))
            self.assertEqual(told[kept], tuple(rule.leaves(run, there) for there in worlds))
        for one, other in combinations(told, 2):
            self.assertEqual(told[one] == told[other], same(Rule(one), Rule(other)), (one, other, run.sights))
        return worlds

    def same_by_notes(self, run):
        def same(one, other):
            return all(follows(first.note(run), sight) for first, second in ((one, other), (other, one)) for sight in second.note(run))
        return same

    def test_told_ones(self):
        for sights, world in ((SIGHTS, WORLD), ([], WORLD), (SIGHTS[:1], WORLD), (SIGHTS[3:], WORLD), ([EMPTY, read("a"), listed("a")], World({})),
                              ([read("a"), listed("a"), read("a/b"), listed("a/b")], World({})),
                              ([read("a"), listed("a"), read("a/b"), listed("a/b")], World({"b": ""})),
                              ([read("a", "x"), listed("a"), read("a/b"), listed("", "a")], World({"a": "x"})),
                              ([listed("a", "b/"), listed("", "a/"), read("a"), read("a/b"), listed("a/c"), read("a/b/d")], World({"a/b/c": "x"})),
                              ([listed("a/b"), read("a/c"), read("a/b")], World({"a": "", "b": ""}))):
            run = Run(sights, "good")
            worlds = self.assert_tells_apart(run, world, self.same_by_notes(run))
            self.assertEqual(worlds == [], sights == [])

    def test_not_true(self):
        for changes in ([("put", "a/b", "")], [("put", "d", "")], [("drop", "c")], [("tool", ""), ("set", "s", "")]):
            world = WORLD.after(changes)
            with self.assertRaises(NotTrue) as caught:
                tests(RUN, world)
            self.assertEqual(caught.exception.index, [world.answer(look) == answer for look, answer in SIGHTS].index(False))
            self.assertIsInstance(caught.exception, AgainError)

    def test_drawn_runs_against_all_worlds(self):
        draw = random.Random("tests")
        spaces = [tree_space(), mixed_space(), chain_space()]
        many = 0
        for at in range(150):
            space = spaces[at % 3]
            world = space.world(draw)
            looks = draw.sample(list(space.answers), draw.randint(1, 8))
            run = Run([(look, world.answer(look)) for look in looks], "good")

            def same(one, other):
                return space.where(one.note(run)) == space.where(other.note(run))
            many += len(self.assert_tells_apart(run, world, same)) > 3
        self.assertGreater(many, 50)

    def test_each_sight_is_untrue_with_only_those_from_which_it_follows(self):
        draw = random.Random("each")
        spaces = [tree_space(), mixed_space(), chain_space()]
        for at in range(150):
            space = spaces[at % 3]
            world = space.world(draw)
            run = Run([(look, world.answer(look)) for look in draw.sample(list(space.answers), draw.randint(1, 8))], "good")
            for sight, there in zip(run.sights, tests(run, world)):
                self.assertEqual([there.answer(look) == answer for look, answer in run.sights],
                                 [not follows([other], sight) for other in run.sights], (run.sights, sight, world.files()))

    def test_lists_are_the_callers_own(self):
        count = len(tests(RUN, WORLD))
        tests(RUN, WORLD).clear()
        self.assertEqual(len(tests(RUN, WORLD)), count)
        self.assertEqual((RUN, WORLD), (Run(SIGHTS, "good"), World({"a/b": "x", "c": ""}, {"s": "y", "u": "v"}, "7")))


if __name__ == "__main__":
    unittest.main()
