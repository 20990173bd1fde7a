"""Marks, patterns and ties as large as callers pass them, and somewhat larger."""

import random
import unittest

from test_sights import setting
from test_sizes import NAMES, full_world
from timed import Timed
from told import drawn_pattern, is_told
from trueagain.marks import Marks
from trueagain.patterns import matches, missed
from trueagain.rules import SORTS, Rule
from trueagain.steps import Run
from trueagain.ties import Ties

LOOKS = [("list", ""), ("list", "a/b"), ("list", "a/b/c/d/e"), ("read", "a/b/c/d"), ("read", "a"), ("list", "q/r"), ("read", "q"),
         ("read", "a/b/c/d/e/aa"), ("list", "a/b/" + NAMES[12]), ("setting", "s"), ("setting", "q"), ("tool",)]
HARD = [["**/a/**/b/**/c", "**/b/**/c/**/a", "**/c/**/a/**/b", "**/a/*/*/*/*", "**/*/*/*/*/b"],
        ["*/**/*/**/*/**", "**/a/**/a/**/a", "a/**/a/**/a/**", "**/*/a/*/**/a", "*/*/*/*/*/**"],
        ["**/**/**/**/**/a", "**/*/**/*/**/b", "*/**/a/**/*/**", "**/b/*/b/*/**", "*/*/*/*/*/*"],
        ["a/*/*/*/*/*", "a/*/*/*/*/**", "*/a/**/*/*/a", "**/a/*/a/**/*", "*/*/a/**/a/*"]]


class TestSizes(Timed):

    def test_patterns_of_six_parts(self):
        patterns = [pattern for row in HARD for pattern in row]
        for row in HARD:
            for pattern in patterns + ["**", "*/**", "**/*/*/*/*/*"]:
                self.check_missed(row, pattern)
                self.assertIsNone(self.soon(missed, row + [pattern], pattern))
                self.check_missed([one for one in row if one != pattern], pattern)

    def check_missed(self, patterns, pattern):
        path = self.soon(missed, patterns, pattern)
        if path is not None:
            self.assertTrue(is_told(pattern, path))
            self.assertFalse(any(is_told(other, path) for other in patterns))

    def test_drawn_patterns_of_ten_parts(self):
        draw = random.Random("ten parts")
        for _ in range(150):
            patterns = [drawn_pattern(draw, "abc", 10) for _ in range(10)]
            for pattern in (drawn_pattern(draw, "abc", 10), patterns[0] + "/**", "**"):
                path = self.soon(missed, patterns, pattern)
                if path is not None:
                    self.assertTrue(matches(pattern, path))
                    self.assertFalse(any(matches(other, path) for other in patterns))

    def test_a_long_path_alone_is_missed(self):
        patterns = ["/".join(["*"] * count) for count in range(1, 30)]
        path = self.soon(missed, patterns, "**")
        self.assertEqual(len(path.split("/")), 30)
        self.assertIs(self.soon(matches, "**", path), True)
        # What was returned may be passed on, whatever its size.
        self.assertIsNone(self.soon(missed, patterns + [path, "**/" + path], path))
        self.assertIsNone(self.soon(missed, ["**/a/**"], path + "/**/a/**"))
        world = full_world().after([("put", "q/" + path, "x")])
        self.assertEqual(self.soon(Ties(["q/" + path]).key, world), ((("q/" + path, "x"),), (), None))

    def test_worlds_of_40_files(self):
        for files in (40, 110):
            world = full_world(files)
            run = Run([(look, world.answer(look)) for look in LOOKS], "good")
            for patterns in HARD + [[], ["**"], ["*", "*/*", "*/*/*", "*/*/*/*", "*/*/*/*/*"], ["*/*/*/*/**", "a/**", "*"]]:
                for ties in (Ties(patterns), Ties(patterns, ["s", "q"], True), Ties(patterns, NAMES)):
                    self.check_ties(ties, run, world)

    def check_ties(self, ties, run, world):
        self.assertTrue(self.soon(ties.leaves, world, world))
        loose = self.soon(ties.loose, run, world)
        self.assertEqual(loose, [sight for sight in run.sights if not self.soon(ties.holds, world, sight)])
        fault = self.soon(ties.wrong, run, world)
        self.assertEqual(fault is None, loose == [])
        if fault is not None:
            self.assertTrue(ties.leaves(world, fault.behind))
            self.assertFalse(run.holds(fault.behind))
        change = self.soon(ties.needless, run, world)
        if change is not None:
            self.assertFalse(ties.leaves(world, world.after([change])))
            self.assertTrue(run.holds(world.after([change])))

    def test_nothing_is_needless_in_a_world_of_40_files(self):
        world = full_world()
        places = sorted({"/".join(path.split("/")[:at]) for path in world.files() for at in range(path.count("/") + 1)})
        looks = [("list", place) for place in places] + [("read", path) for path in world.files()]
        for patterns in HARD:
            self.assertIsNone(self.soon(Ties(patterns).needless, Run([(look, world.answer(look)) for look in looks], ""), world))
            self.assertIsNotNone(self.soon(Ties(patterns + ["a/b/*"]).needless, Run([(look, world.answer(look)) for look in looks[2:]], ""), world))

    def test_marks_of_20_runs(self):
        world = full_world()
        for rule in (Rule(SORTS), Rule([]), ~Rule(["setting"])):
            marks = Marks(rule)
            for at in range(20):
                sights = [(look, world.answer(look)) for look in LOOKS if look != ("setting", "s")]
                marks.add(Run(sights + [setting("s", str(at))], str(at)))
            self.assertEqual(self.soon(marks.clash), None if "setting" in rule else (0, 1))
            self.assertEqual(self.soon(marks.found, world), [] if "setting" in rule else list(range(20)))
            self.assertEqual(self.soon(marks.strays, world), [] if "setting" in rule else list(range(20)))


if __name__ == "__main__":
    unittest.main()
