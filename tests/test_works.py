"""Points 24 to 26: works, works again, works that nobody reads."""

import random
import unittest
from functools import lru_cache
from itertools import product

from drawn import mixed_space, tree_space
from odd import NO_NAMES, NO_STRINGS
from test_sights import EMPTY, listed, read, setting, tool
from trueagain.errors import AgainError, BadCount, BadName
from trueagain.rules import SORTS, Rule
from trueagain.steps import Run, Step
from trueagain.works import Work, again_needed
from trueagain.worlds import World

ALL, NONE = Rule(SORTS), Rule([])
NO_KIND_OF_NAME = list(NO_STRINGS) + list(NO_NAMES)
STEP = Step(("ask", ("read", "a"), [("x", ("end", "good")), (None, ("ask", ("read", "b"), [(None, ("end", "bad"))],
                                                                        ("end", "good")))], ("end", "bad")))
GREEN = Step(("ask", ("setting", "lint"), [("good", ("end", "green"))], ("end", "red")))
END = Step(("end", "done"))


def says(name, *texts):
    """A step that tells what a setting is, of these texts, and else no more than that it is another."""
    return Step(("ask", ("setting", name), [(text, ("end", "saw " + str(text))) for text in texts], ("end", "other")))


def outcomes_of(runs):
    return [run.outcome for run in runs]


class TestWorks(unittest.TestCase):
    """[24]"""

    def test_without_steps(self):
        for work in (Work([]), Work(()), Work(parts=[])):
            self.assertEqual((work.names(), len(work), work.run(World({}))), ([], 0, []))

    def test_names(self):
        for parts in ([("lint", STEP), ("all", GREEN)], (["lint", STEP], ["all", GREEN]), [("a", END)], [("b", END), ("a", END), ("ab", END)]):
            work = Work(parts)
            self.assertEqual((work.names(), len(work)), ([name for name, _ in parts], len(parts)))

    def test_bad_names(self):
        for thing in NO_KIND_OF_NAME:
            for parts in ([(thing, END)], [("a", END), (thing, END), (None, END), ("a", END)], [(thing, END), (thing, END)]):
                with self.assertRaises(BadName) as caught:
                    Work(parts)
                self.assertIs(caught.exception.name, thing)
                self.assertIsInstance(caught.exception, AgainError)
        for parts, name in (([("a", END), ("a", STEP)], "a"), ([("a", END), ("b", END), ("b", END), ("a", END), ("", END)], "b")):
            with self.assertRaises(BadName) as caught:
                Work(parts)
            self.assertEqual(caught.exception.name, name)

    def test_outcomes_are_settings_of_later_steps(self):
        work = Work([("lint", STEP), ("all", GREEN)])
        for files, told in (({"a": "x"}, ["good", "green"]), ({"a": "y"}, ["bad", "red"]), ({}, ["bad", "red"]), ({"b": ""}, ["good", "green"])):
            self.assertEqual(outcomes_of(work.run(world=World(files))), told)
        runs = work.run(World({"a": "x"}))
        self.assertEqual(runs, [Run([read("a", "x")], "good"), Run([setting("lint", "good")], "green")])

    def test_outcomes_stand_over_the_settings_of_the_world(self):
        work = Work([("lint", STEP), ("all", GREEN), ("more", says("all", "red", "green"))])
        for text in ("good", "bad", ""):
            self.assertEqual(outcomes_of(work.run(World({"a": "x"}, {"lint": text, "all": "red"}))), ["good", "green", "saw green"])
            self.assertEqual(outcomes_of(work.run(World({}, {"lint": text, "all": "green"}))), ["bad", "red", "saw red"])

    def test_own_and_later_names_are_settings_of_the_world(self):
        work = Work([("a", says("b", "x")), ("b", says("b", "x")), ("c", says("b", "x", "saw x"))])
        self.assertEqual(outcomes_of(work.run(World({}, {"b": "x"}))), ["saw x", "saw x", "saw saw x"])
        self.assertEqual(outcomes_of(work.run(World({}))), ["other", "other", "other"])
        self.assertEqual(work.run(World({}))[1], Run([setting("b")], "other"))
        self.assertEqual(work.run(World({}))[2], Run([setting("b", "other")], "other"))

    def test_outcomes_that_look_odd(self):
        for text in ("", "a/b", "-", "\n", "\ud800"):
            work = Work([("a", Step(("end", text))), ("b", says("a", text))])
            self.assertEqual(outcomes_of(work.run(World({}, {"a": "q"}))), [text, "saw " + text])

    def test_lists_are_the_callers_own(self):
        parts = [("lint", STEP), ["all", GREEN]]
        work = Work(parts)
        world = World({"a": "x"}, {"lint": "q"})
        told = work.run(world)
        parts[1][0] = "more"
        parts.append(("none", END))
        work.names().append("q")
        work.run(world).clear()
        self.assertEqual((work.names(), len(work), work.run(world)), (["lint", "all"], 2, told))
        self.assertEqual(world, World({"a": "x"}, {"lint": "q"}))
        for thing in (None, [], parts, ("lint",), 2):
            self.assertFalse(work == thing)


class TestAgain(unittest.TestCase):
    """[25]"""

    WORK = Work([("lint", STEP), ("all", GREEN), ("end", END)])

    def assert_again(self, runs, world, rule, words, outcomes):
        told = self.WORK.again(runs=runs, world=world, rule=rule)
        self.assertIsInstance(told, list)
        self.assertEqual([word for word, _ in told], words)
        self.assertEqual([run.outcome for _, run in told], outcomes)
        for pair, run in zip(told, runs):
            self.assertIsInstance(pair, tuple)
            if pair[0] == "left":
                self.assertIs(pair[1], run)

    def test_again(self):
        here = World({"a": "x", "c": ""})
        runs = self.WORK.run(here)
        self.assert_again(runs, here, ALL, ["left"] * 3, ["good", "green", "done"])
        self.assert_again(tuple(runs), here.after([("drop", "c")]), ALL, ["left"] * 3, ["good", "green", "done"])
        self.assert_again(runs, World({"a": "y"}), ALL, ["ran", "ran", "left"], ["bad", "red", "done"])
        self.assert_again(runs, World({"b": "y"}), ALL, ["ran", "left", "left"], ["good", "green", "done"])
        self.assert_again(runs, World({"a": "y"}, {"lint": "good"}), ALL, ["ran", "ran", "left"], ["bad", "red", "done"])
        self.assert_again(runs, here.after([("set", "lint", "bad")]), ALL, ["left"] * 3, ["good", "green", "done"])

    def test_rules_that_keep_less(self):
        runs = self.WORK.run(World({"a": "x"}))
        away = World({"a": "y"})
        self.assert_again(runs, away, NONE, ["left"] * 3, ["good", "green", "done"])
        self.assert_again(runs, away, Rule(["setting"]), ["left"] * 3, ["good", "green", "done"])
        self.assert_again(runs, away, Rule(["contents"]), ["ran", "left", "left"], ["bad", "green", "done"])
        self.assert_again(runs, away, Rule(["contents", "setting"]), ["ran", "ran", "left"], ["bad", "red", "done"])
        self.assert_again(runs, away, Rule(["lacking", "names"]), ["left"] * 3, ["good", "green", "done"])

    def test_runs_that_the_steps_never_had(self):
        runs = [Run([], "odd"), Run([setting("lint", "odd")], "so"), Run([setting("all", "so")], "yes")]
        self.assert_again(runs, World({}), ALL, ["left"] * 3, ["odd", "so", "yes"])
        runs = [Run([read("a", "q")], "odd"), Run([setting("lint", "odd")], "so"), Run([setting("all", "so")], "yes")]
        self.assert_again(runs, World({}), ALL, ["ran"] * 3, ["bad", "red", "done"])
        self.assert_again(runs, World({}, {"lint": "odd", "all": "so"}), ALL, ["ran"] * 3, ["bad", "red", "done"])

    def test_own_and_later_names(self):
        work = Work([("a", says("b", "x")), ("b", says("b", "x"))])
        runs = work.run(World({}, {"b": "x"}))
        self.assertEqual([word for word, _ in work.again(runs, World({}, {"b": "x", "a": ""}), ALL)], ["left", "left"])
        self.assertEqual([word for word, _ in work.again(runs, World({}), ALL)], ["ran", "ran"])

    def test_without_steps(self):
        self.assertEqual(Work([]).again([], World({}), ALL), [])

    def test_nothing_passed_is_changed(self):
        world = World({"a": "y"})
        runs = self.WORK.run(World({"a": "x"}))
        told = list(runs)
        self.WORK.again(runs, world, ALL).clear()
        self.assertEqual((runs, world), (told, World({"a": "y"})))

    def test_drawn_works_end_as_they_run(self):
        draw = random.Random("again")
        counts = {"left": 0, "ran": 0}
        for at in range(300):
            work, space = drawn_work(draw, spaces()[at % 2], draw.randint(0, 6))
            before = work.run(space.world(draw))
            world = space.world(draw)
            told = work.again(before, world, ALL)
            self.assertEqual([run for _, run in told], work.run(world))
            for (word, run), known in zip(told, before):
                counts[word] += 1
                self.assertEqual(word == "left", run == known)
            self.assertEqual([word for word, _ in work.again(work.run(world), world, ALL)], ["left"] * len(work))
            self.check_rule(work, before, world, Rule(draw.sample(SORTS, draw.randint(0, 6))))
        self.assertGreater(min(counts.values()), 150)

    def check_rule(self, work, before, world, rule):
        settings = world.settings()
        for (word, run), known, (name, step) in zip(work.again(before, world, rule), before, work.told):
            there = World(world.files(), settings, world.tool)
            left = rule.leaves(known, there)
            self.assertEqual((word, run), ("left", known) if left else ("ran", step.run(there)))
            settings[name] = run.outcome


@lru_cache(maxsize=None)
def spaces():
    return [tree_space(), mixed_space()]


def drawn_work(draw, space, count):
    """A work of so many drawn steps, called s, t and so on, which look at files and at one another."""
    names = draw.sample("stuvw", min(count, 5)) + ["x", "y", "z"][:max(0, count - 5)]
    looks = dict(space.answers)
    for name in names:
        looks[("setting", name)] = [None, "good", "bad"]
    outer = type(space)(space.worlds, looks)
    parts = [(name, outer.step(draw, draw.randint(1, 3))) for name in names]
    work = Work(parts)
    work.told = parts
    return work, space


class TestAgainNeeded(unittest.TestCase):
    """[26]"""

    def assert_needed(self, runs, world, words, names="abcdefgh"):
        names = list(names[:len(runs)])
        self.assertEqual(again_needed(names=names, runs=runs, world=world), words)
        self.assertEqual(again_needed(tuple(names), tuple(runs), world), words)
        self.assertEqual(words, by_all_rows(names, runs, world))

    def test_without_steps(self):
        self.assertEqual(again_needed([], [], World({})), [])

    def test_sights_of_the_world(self):
        world = World({"a": "x"}, {"q": "y"}, "7")
        self.assert_needed([Run([], ""), Run([read("a", "x")], ""), Run([read("a")], ""), Run([tool("7"), setting("q", "y")], ""),
                            Run([tool("7"), setting("q")], ""), Run([EMPTY], ""), Run([listed("", "a")], "")], world,
                           ["left", "left", "run", "left", "run", "run", "left"])

    def test_what_a_step_says_whose_run_holds(self):
        holds = Run([read("a", "x")], "good")
        world = World({"a": "x"}, {"a": "bad"})
        self.assert_needed([holds, Run([setting("a", "good")], "")], world, ["left", "left"])
        self.assert_needed([holds, Run([setting("a", "bad")], "")], world, ["left", "run"])
        self.assert_needed([holds, Run([setting("a", "good")], "g"), Run([setting("b", "g")], ""), Run([setting("b", "h")], "")],
                           world, ["left", "left", "left", "run"])

    def test_what_a_step_says_whose_run_does_not_hold(self):
        away = Run([read("a", "y")], "good")
        world = World({"a": "x"})
        self.assert_needed([away, Run([setting("a", "good")], "")], world, ["run", "open"])
        self.assert_needed([away, Run([setting("a", "bad")], "")], world, ["run", "open"])
        self.assert_needed([away, Run([setting("a", "")], ""), Run([], "")], world, ["run", "open", "left"])

    def test_none_for_the_name_of_an_earlier_step(self):
        for first, word in ((Run([], "good"), "left"), (Run([read("a", "y")], "good"), "run")):
            self.assert_needed([first, Run([setting("a")], "")], World({}), [word, "run"])
            self.assert_needed([first, Run([setting("a")], ""), Run([setting("b", "")], "")], World({}), [word, "run", "open"])

    def test_own_and_later_names_are_the_settings_of_the_world(self):
        runs = [Run([setting("a"), setting("b", "x")], "x"), Run([setting("b", "x"), setting("a", "x"), setting("c")], "x"),
                Run([setting("b", "x"), setting("c")], "")]
        self.assert_needed(runs, World({}, {"b": "x"}), ["left"] * 3)
        self.assert_needed(runs, World({}), ["run", "run", "open"])
        self.assert_needed(runs, World({}, {"a": "x", "b": "x"}), ["run", "open", "open"])
        self.assert_needed(runs, World({}, {"b": "x", "c": "x"}), ["left", "run", "run"])

    def test_steps_that_see_one_anothers_outcomes(self):
        away = Run([tool("8")], "good")
        world = World({}, {}, "7")
        # Each of several texts can come, but not two of them at once.
        self.assert_needed([away, Run([setting("a", "x")], "b"), Run([setting("a", "y")], "c"),
                            Run([setting("b", "b"), setting("c", "c")], "d")], world, ["run", "open", "open", "open"])
        # The second holds if the first says x; then it says b, so that the third never holds.
        self.assert_needed([away, Run([setting("a", "x")], "b"), Run([setting("a", "x"), setting("b", "c")], "d")],
                           world, ["run", "open", "run"])
        self.assert_needed([away, Run([setting("a", "x")], "b"), Run([setting("a", "x"), setting("b", "b")], "d")],
                           world, ["run", "open", "open"])
        self.assert_needed([away, Run([setting("a", "x")], "b"), Run([setting("a", "x"), setting("b", "c")], "d"),
                            Run([setting("c", "d")], ""), Run([setting("b", "c"), setting("a", "x")], "")],
                           world, ["run", "open", "run", "open", "run"])
        self.assert_needed([Run([], "x"), Run([setting("a", "y")], "b"), Run([setting("b", "b")], "c"), Run([setting("c", "c")], "d")],
                           world, ["left", "run", "open", "open"])

    def test_bad_names(self):
        run = Run([], "")
        for thing in NO_KIND_OF_NAME:
            for names, runs in (([thing], [run]), (["a", thing, None], [run]), ([thing, thing], [run] * 9)):
                with self.assertRaises(BadName) as caught:
                    again_needed(names, runs, World({}))
                self.assertIs(caught.exception.name, thing)
        for names in (["a", "a"], ["b", "a", "a", "b"], ["a", "a", ""]):
            for count in (1, len(names)):
                with self.assertRaises(BadName) as caught:
                    again_needed(names, [run] * count, World({}))
                self.assertEqual(caught.exception.name, "a")

    def test_bad_counts(self):
        for names, count in (([], 1), (["a"], 0), (["a"], 2), (["a", "b", "c"], 2), (["a", "b"], 8)):
            with self.assertRaises(BadCount) as caught:
                again_needed(names, [Run([], "")] * count, World({}))
            self.assertEqual(caught.exception.n, count)
            self.assertIsInstance(caught.exception, AgainError)

    def test_drawn_runs_against_all_rows_of_outcomes(self):
        draw = random.Random("needed")
        counts = {}
        for at in range(700):
            names = draw.sample("stuvw", draw.randint(1, 5))
            world = World({"a": "x"}, {name: draw.choice("xy") for name in names if draw.random() < 0.3})
            runs = []
            for number in range(len(names)):
                sights = [setting(name, draw.choice(["x", "x", "y", "z", None] if draw.random() < 0.3 else "xy"))
                          for name in names if draw.random() < 0.3 or name in names[:number] and draw.random() < 0.4]
                runs.append(Run(sights + [read("a", "x" if draw.random() < 0.8 else "y")], draw.choice("xy")))
            words = again_needed(names, runs, world)
            self.assertEqual(words, by_all_rows(names, runs, world), [run.sights for run in runs])
            for word in words:
                counts[word] = counts.get(word, 0) + 1
        self.assertGreater(min(counts.values()), 150)

    def test_drawn_works(self):
        draw = random.Random("works")
        counts = {"left": 0, "run": 0, "open": 0}
        for at in range(200):
            work, space = drawn_work(draw, spaces()[at % 2], draw.randint(1, 5))
            before, world = work.run(space.world(draw)), space.world(draw)
            words = again_needed(work.names(), before, world)
            self.assertEqual(words, by_all_rows(work.names(), before, world))
            for word, run, now in zip(words, before, work.run(world)):
                counts[word] += 1
                self.assertTrue(word == "open" or (word == "left") == (run == now))
        self.assertGreater(min(counts.values()), 30)

    def test_nothing_passed_is_changed(self):
        names, runs = ["a", "b"], [Run([tool("8")], "x"), Run([setting("a", "x")], "")]
        again_needed(names, runs, World({})).clear()
        self.assertEqual((names, runs), (["a", "b"], [Run([tool("8")], "x"), Run([setting("a", "x")], "")]))


def by_all_rows(names, runs, world):
    """The words, found by trying all rows of outcomes: those that were seen or said, and another one."""
    texts = []
    for number, name in enumerate(names):
        seen = {answer for run in runs for look, answer in run.sights if look == ("setting", name) and answer is not None}
        texts.append(sorted(seen | {runs[number].outcome, "another"}))
    held = [set() for _ in names]
    plain = {look: world.answer(look) for run in runs for look, _ in run.sights}
    for row in product(*texts):
        shown = dict(plain)
        holding = []
        for name, said, run in zip(names, row, runs):
            holding.append(all(shown[look] == answer for look, answer in run.sights))
            shown[("setting", name)] = said
        if all(said == run.outcome for said, run, holds in zip(row, runs, holding) if holds):
            for found, holds in zip(held, holding):
                found.add(holds)
    return ["open" if len(found) == 2 else "left" if True in found else "run" for found in held]


if __name__ == "__main__":
    unittest.main()
