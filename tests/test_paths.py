"""Point 1: how paths lie to each other, and names to fill folders with."""

import unittest

from odd import NO_NAMES, NO_PATHS, NO_STRINGS
from trueagain.paths import is_at_or_beneath, is_beneath, is_name, is_path, is_place, name_numbered, paths_above, rest_in


class TestPaths(unittest.TestCase):

    def test_kinds(self):
        for thing in NO_STRINGS + NO_PATHS:
            self.assertIs(is_path(thing), False)
            self.assertIs(is_place(thing), isinstance(thing, str) and thing == "")
        for thing in NO_STRINGS + NO_NAMES:
            self.assertIs(is_name(thing), False)
        for name in ("a", "zz", "abcdefgh"):
            self.assertEqual([is_name(name), is_path(name), is_place(name), is_path("a/" + name)], [True] * 4)

    def test_beneath(self):
        for path, place in (("a/b", "a"), ("a/b/c", "a"), ("a/b/c", "a/b"), ("a", ""), ("a/b", "")):
            self.assertIs(is_beneath(path, place), True)
            self.assertIs(is_beneath(place, path), False)
            self.assertIs(is_at_or_beneath(path, place), True)
            self.assertIs(is_at_or_beneath(place, path), False)
        for path, place in (("ab", "a"), ("ab/c", "a"), ("a/b", "b"), ("a/bc", "a/b")):
            self.assertIs(is_beneath(path, place), False)
        for place in ("", "a", "a/b"):
            self.assertIs(is_beneath(place, place), False)
            self.assertIs(is_at_or_beneath(place, place), True)

    def test_parts(self):
        self.assertEqual([paths_above("a"), paths_above("ab/c"), paths_above("a/b/c")], [[], ["ab"], ["a", "a/b"]])
        self.assertEqual([rest_in("a/b/c", "a"), rest_in("a/b/c", ""), rest_in("a/b/c", "a/b")], ["b/c", "a/b/c", "c"])

    def test_numbered_names(self):
        names = [name_numbered(number) for number in range(2000)]
        self.assertEqual(names, sorted(names, key=lambda name: (len(name), name)))
        self.assertEqual(len(set(names)), 2000)
        self.assertTrue(all(is_name(name) for name in names))
        self.assertEqual([names[at] for at in (0, 25, 26, 51, 52, 701, 702)], ["a", "z", "aa", "az", "ba", "zz", "aaa"])


if __name__ == "__main__":
    unittest.main()
