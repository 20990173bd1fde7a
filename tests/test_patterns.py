"""Point 20: patterns, what they match and what they miss."""

import random
import unittest

from odd import NO_PATHS, NO_STRINGS, ODD
from told import NO_PATTERNS, all_paths, drawn_pattern, drawn_patterns, is_told, shortest_expansion
from trueagain.errors import AgainError, BadPath, BadPattern
from trueagain.patterns import matches, missed

NO_KIND_OF_PATTERN = list(NO_STRINGS) + list(NO_PATTERNS)
NO_KIND_OF_PATH = list(NO_STRINGS) + list(NO_PATHS) + ["**", "a/**", "*/a"]


class TestMatches(unittest.TestCase):
    """[20]: matches."""

    def test_told_ones(self):
        for pattern, right, wrong in (
                ("a", ["a"], ["b", "a/a", "aa", "a/b"]),
                ("a/bc", ["a/bc"], ["a", "bc", "a/b", "a/bc/d", "a/bcd", "bc/a"]),
                ("*", ["a", "bc", "abcdefgh"], ["a/b", "a/b/c"]),
                ("*/*", ["a/b", "b/b"], ["a", "a/b/c"]),
                ("a/*/c", ["a/b/c", "a/c/c"], ["a/c", "a/b/b/c", "b/b/c", "a/b/d"]),
                ("**", ["a", "a/b", "a/b/c/d/e/f", "a/b/c/d/e/f/g/h"], []),
                ("**/**", ["a", "a/b", "a/b/c"], []),
                ("**/**/**/**/**/**", ["a", "a/b/c/d/e/f"], []),
                ("a/**", ["a", "a/b", "a/a/a"], ["b", "b/a", "aa", "aa/b"]),
                ("**/a", ["a", "b/a", "a/a/a"], ["b", "a/b", "ba"]),
                ("**/a/**", ["a", "b/a", "a/b", "b/a/b"], ["b", "aa", "b/b", "ab/ba"]),
                ("a/**/b", ["a/b", "a/b/b", "a/c/d/b"], ["a", "b", "a/b/a", "b/a/b"]),
                ("a/**/**/b", ["a/b", "a/c/b"], ["a", "ab"]),
                ("*/**", ["a", "a/b", "a/b/c"], []),
                ("**/*", ["a", "a/b", "a/b/c"], []),
                ("*/**/*", ["a/b", "a/b/c"], ["a"]),
                ("**/*/**/*/**", ["a/b", "a/b/c"], ["a"]),
                ("*/*/*/*/*/*", ["a/b/c/d/e/f"], ["a/b/c/d/e", "a/b/c/d/e/f/g"]),
                ("**/a/**/a/**/a", ["a/a/a", "b/a/b/a/b/a"], ["a/a", "a/a/b", "a/b/a/b"])):
            for path in right:
                self.assertIs(matches(pattern=pattern, path=path), True, (pattern, path))
            for path in wrong:
                self.assertIs(matches(pattern, path), False, (pattern, path))

    def test_all_paths_of_up_to_four_names(self):
        draw = random.Random("matches")
        paths = all_paths(["a", "b", "c"], 4)
        counts = [0, 0]
        for _ in range(400):
            pattern = drawn_pattern(draw, "ab", 6)
            for path in draw.sample(paths, 40):
                self.assertIs(matches(pattern, path), is_told(pattern, path), (pattern, path))
                counts[matches(pattern, path)] += 1
        self.assertGreater(min(counts), 2000)

    def test_a_path_is_a_pattern_that_matches_itself_alone(self):
        paths = all_paths(["a", "ab", "b"], 3)
        for path in paths:
            self.assertEqual([other for other in paths if matches(path, other)], [path])

    def test_long_ones(self):
        long = "/".join(["a"] * 60)
        self.assertIs(matches(long, long), True)
        self.assertIs(matches("/".join(["**", "a"] * 15), long), True)
        self.assertIs(matches("/".join(["**", "a"] * 15 + ["b"]), long), False)
        self.assertIs(matches("/".join(["**", "*"] * 30), long), True)
        self.assertIs(matches("/".join(["**", "*"] * 31), long), True)
        self.assertIs(matches("/".join(["**", "*"] * 61), long), False)

    def test_bad_patterns(self):
        for thing in NO_KIND_OF_PATTERN:
            for path in ("a", None, ""):
                with self.assertRaises(BadPattern) as caught:
                    matches(thing, path)
                self.assertIs(caught.exception.thing, thing)
                self.assertIsInstance(caught.exception, AgainError)

    def test_bad_paths(self):
        for thing in NO_KIND_OF_PATH:
            for pattern in ("a", "**", "*/b"):
                with self.assertRaises(BadPath) as caught:
                    matches(pattern, thing)
                self.assertIs(caught.exception.path, thing)
                self.assertIsInstance(caught.exception, AgainError)


class TestMissed(unittest.TestCase):
    """[20]: missed."""

    def assert_missed(self, patterns, pattern, count):
        path = missed(patterns=patterns, pattern=pattern)
        if count is None:
            self.assertIsNone(path, (patterns, pattern))
            return
        self.assertIsInstance(path, str, (patterns, pattern))
        self.assertEqual(len(path.split("/")), count, (patterns, pattern, path))
        self.assertTrue(is_told(pattern, path), (patterns, pattern, path))
        self.assertFalse(any(is_told(other, path) for other in patterns), (patterns, pattern, path))
        self.assertIs(matches(pattern, path), True)
        self.assertEqual(missed(patterns, pattern), path)

    def test_told_ones(self):
        for patterns, pattern, count in (
                ([], "a", 1), ([], "**", 1), ([], "**/**", 1), ([], "*/**/*", 2), ([], "a/b/c/d/e/f", 6), ([], "**/a/**/b/**", 2),
                (["**"], "**", None), (["**"], "*/*", None), (["**"], "a/b", None), (["*"], "a", None), (["*"], "a/b", 2),
                (["a"], "*", 1), (["a"], "**", 1), (["*"], "**", 2), (["*", "*/*"], "**", 3), (["*", "*/**"], "**", None),
                (["*/**"], "**", None), (["**/*"], "**", None), (["**/*"], "*/**", None), (["*", "*/*/**"], "**", None),
                (["*", "*/*", "*/*/*", "*/*/*/*", "*/*/*/*/*"], "**", 6), (["*", "*/*", "*/*/*/**"], "**", None),
                (["*/*"], "*/**", 1), (["*/*/**"], "**", 1), (["a/**"], "a", None), (["a/*"], "a/**", 1), (["a", "a/*"], "a/**", 3),
                (["a", "a/*/**"], "a/**", None), (["a/**/b"], "a/b", None), (["a/**/b"], "a/**/b", None), (["a/*/**/b"], "a/**/b", 2),
                (["a/b", "a/*/**/b"], "a/**/b", None), (["**/a/**"], "**", 1), (["**/a"], "**/a/**", 2), (["a/**", "**/b"], "a/**/b", None),
                (["a/**"], "**/a", 2), (["**/a/**", "**/b/**"], "**/a/**/b/**", None), (["**/a/**/b/**"], "**/a/**", 1),
                (["**/b/**/a/**"], "**/a/**/b/**", 2), (["**/a/**/b/**", "**/b/**/a/**"], "**/a/**", 1), (["**/**"], "**", None),
                (["**/*/*"], "**", 1), (["*", "**/*/*"], "**", None), (["*", "**/*/*/*", "a/*"], "**", 2), (["a", "*/*"], "*", 1)):
            self.assert_missed(patterns, pattern, count)
            self.assert_missed(tuple(patterns[::-1]), pattern, count)
            self.assert_missed(patterns + patterns, pattern, count)

    def test_held_against_all_paths_of_up_to_four_names(self):
        draw = random.Random("missed")
        paths = all_paths(["a", "b", "c"], 4)
        counts = {}
        for at in range(1500):
            pattern = drawn_pattern(draw, "ab", 2 + at % 3)
            patterns = drawn_patterns(draw, "ab", 3 + at % 2)
            if at % 4 == 0:
                patterns = [near(draw, pattern) for _ in range(draw.randint(1, 4))]
            found = [path.count("/") + 1 for path in paths if is_told(pattern, path) and not any(is_told(one, path) for one in patterns)]
            count = shortest_expansion(patterns, pattern, 7)
            if found:
                self.assertEqual(min(found), count, (patterns, pattern))
            else:
                self.assertTrue(count is None or count > 4, (patterns, pattern))
            self.assert_missed(patterns, pattern, count)
            counts[count] = counts.get(count, 0) + 1
        self.assertGreater(counts[None], 300)
        self.assertGreater(min(counts[1], counts[2], counts[3]), 30)

    def test_drawn_patterns_of_six_parts(self):
        draw = random.Random("six parts")
        counts = {}
        for _ in range(300):
            pattern = drawn_pattern(draw, "ab", 6, ("*", "**"))
            while pattern.split("/").count("**") > 3:
                pattern = drawn_pattern(draw, "ab", 6, ("*", "**"))
            patterns = [near(draw, pattern) for _ in range(draw.randint(1, 5))]
            count = shortest_expansion(patterns, pattern, 7)
            self.assert_missed(patterns, pattern, count)
            counts[count] = counts.get(count, 0) + 1
        self.assertGreater(counts[None], 100)
        self.assertGreater(len(counts), 5)

    def test_names_that_stand_in_patterns_are_missed_too(self):
        letters = "abcdefghijklmnopqrstuvwxyz"
        self.assert_missed([letter + "/**" for letter in letters], "**", 1)
        self.assert_missed([letter + "/**" for letter in letters], "*/a", 2)
        self.assert_missed([letter + "/**" for letter in letters[:-1]], "z/*", 2)
        self.assert_missed(["*/a", "*/b"], "*/c", 2)

    def test_bad_patterns(self):
        for thing in NO_KIND_OF_PATTERN:
            for patterns, pattern in (([], thing), (["a", "**"], thing), ([thing], "a"), (["*", thing], None), (["a", thing, None, "/"], "")):
                with self.assertRaises(BadPattern) as caught:
                    missed(patterns, pattern)
                self.assertIs(caught.exception.thing, thing)

    def test_nothing_passed_is_changed(self):
        patterns = ["*", "a/**"]
        missed(patterns, "**")
        with self.assertRaises(BadPattern):
            missed(patterns, "")
        self.assertEqual(patterns, ["*", "a/**"])

    def test_document_says(self):
        self.assertEqual([matches("a/**", "a"), matches("a/*/c", "a/b/c"), missed(["*", "*/**"], "**"), missed(["a/*"], "a/**")],
                         [True, True, None, "a"])


def near(draw, pattern):
    """A pattern with one or two parts changed, so that it matches much of the same."""
    parts = pattern.split("/")
    for _ in range(draw.randint(1, 2)):
        at = draw.randrange(len(parts))
        parts[at:at + 1] = draw.choice([["*"], ["**"], ["**", parts[at]], [parts[at], "**"], ["*", parts[at]], [parts[at]], ["a"]])
    return "/".join(parts)


if __name__ == "__main__":
    unittest.main()
