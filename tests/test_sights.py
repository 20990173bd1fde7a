"""Points 5 to 8: sights, which of them go together, what follows from them, least notes."""

import unittest
from itertools import permutations

from odd import NO_NAMES, NO_PATHS, NO_STRINGS, NO_TEXTS, ODD
from trueagain.errors import Apart, BadLook, BadSight
from trueagain.sights import apart, bars, follows, is_sight, least, sure, world_of
from trueagain.worlds import World


def read(path, text=None):
    return (("read", path), text)


def listed(place, *names):
    return (("list", place), names or None)


def setting(name, text=None):
    return (("setting", name), text)


def tool(text):
    return (("tool",), text)


LETTERS = "abcdefghijklmnopqrstuvwxyz"
EMPTY = (("list", ""), ())
SAW = [listed("", "a/", "c"), read("d"), read("a/b", "x"), listed("c")]
LONG = "a/b/c/d/e/f/g/h"
RIGHT = [read("a", ""), read("a", "x"), read("a"), read(LONG, "\n"), read("abcdefgh"), EMPTY, listed("", "a"),
         listed("", "a/"), listed("a"), listed("a", "b", "c/"), listed(LONG, "a", "ab", "abc/", "abcdefgh", "b/"),
         setting("s", ""), setting("s", "x"), setting("s"), setting("abcdefgh", "\ud800"), tool(""), tool("7"),
         [["read", "a"], "x"], [("list", ""), []], (["list", "a"], ["b", "c/"]), [["tool"], "7"], [["setting", "s"], None]]


def wrong_sights():
    """Things that are no sights, though some come near."""
    wrong = [thing for thing in ODD]
    wrong += [("read", "a"), (("read", "a"),), (("read", "a"), "x", "y"), (("read", "a"), None, None), (("tool",), None),
              (("list", ""), None), (("list", "a"), ()), (("list", "a"), []), (("list", "a"), "b"), (("list", ""), ""),
              (("list", ""), ("b", "a")), (("list", ""), ("a", "a")), (("list", ""), ("a", "a/")), (("list", ""), ("a/", "a")),
              (("list", ""), ("a/", "a/")), (("list", ""), ("b/", "a")), (("list", ""), ("ab", "a/")), (("list", ""), (["a"],)),
              (("list", ""), (("a",),)), (("list", ""), (None,)), (("list", ""), {"a"}), (("list", ""), {"a": 1}),
              (("list", ""), ("a//",)), (("list", ""), ("/",)), (("list", ""), ("",)), (("list", ""), ("a/b",)),
              (("list", ""), ("a", "b", 1)), (("list", "/"), ("a",)), (("read", ""), None), (("read", "a"), ("x",)),
              (("read", "a"), ["x"]), (("setting", "s"), ()), (("tool",), ()), (("drop", "a"), None), {("read", "a"): "x"},
              (("tool", ""), "7"), (("tool"), "7"), "ab", [["list", "a"], [["b"]]], (("list", "a"), ("B",)), ((), None)]
    wrong += [(thing, "x") for thing in ODD] + [(thing, None) for thing in ODD]
    wrong += [(("read", thing), "x") for thing in NO_STRINGS + NO_PATHS]
    wrong += [(("list", thing), ("a",)) for thing in NO_STRINGS + NO_PATHS if not (isinstance(thing, str) and thing == "")]
    wrong += [(("setting", thing), "x") for thing in NO_STRINGS + NO_NAMES]
    wrong += [(("list", ""), (thing,)) for thing in NO_STRINGS + NO_NAMES if not (isinstance(thing, str) and thing == "a/")]
    wrong += [(("list", ""), thing) for thing in NO_TEXTS]
    for look in (("read", "a"), ("setting", "s"), ("tool",)):
        wrong += [(look, thing) for thing in NO_STRINGS if thing is not None]
    return wrong


class TestSights(unittest.TestCase):
    """[5]"""

    def test_right_ones(self):
        for sight in RIGHT:
            self.assertIs(is_sight(sight), True, sight)

    def test_wrong_ones(self):
        for at, thing in enumerate(wrong_sights()):
            self.assertIs(is_sight(thing), False, at)

    def test_what_a_world_shows_is_a_sight(self):
        world = World({"a/b": "x", "a/c/d": "", "ab/c": "", "e": ""}, {"s": ""}, "7")
        for look in [("read", "a"), ("read", "a/b"), ("list", ""), ("list", "a"), ("list", "a/b"), ("list", "a/c"),
                     ("setting", "s"), ("setting", "t"), ("tool",)]:
            self.assertTrue(is_sight((look, world.answer(look))))
        self.assertTrue(is_sight((("list", ""), World({}).answer(("list", "")))))

    def test_bad_sight_has_the_first_number(self):
        good = read("a", "x")
        for thing in wrong_sights():
            for call in (apart, world_of, least, lambda sights: follows(sights, 5), lambda sights: sure(sights, 5)):
                for index, sights in ((0, [thing]), (2, [good, good, thing, None]), (1, (good, thing, read("a")))):
                    with self.assertRaises(BadSight) as caught:
                        call(sights)
                    self.assertEqual(caught.exception.index, index)
            for index, pair in ((0, (thing, good)), (1, (good, thing)), (0, (thing, thing))):
                with self.assertRaises(BadSight) as caught:
                    bars(*pair)
                self.assertEqual(caught.exception.index, index)

    def test_lists_stand_for_tuples(self):
        rows = [[["list", ""], ["a/", "c"]], [["read", "d"], None], [["read", "a/b"], "x"], [["list", "c"], None]]
        self.assertIsNone(apart(rows))
        self.assertTrue(follows(rows[:1], rows[1]))
        self.assertTrue(follows(SAW[:1], rows[0]) and follows(rows[:1], SAW[0]))
        self.assertFalse(bars(rows[0], SAW[0]))
        self.assertEqual(least(rows), [SAW[0], SAW[2]])
        self.assertEqual(least(rows + SAW), [SAW[0], SAW[2]])
        self.assertEqual(repr(least(rows)), repr([SAW[0], SAW[2]]))
        self.assertEqual(repr(sure(rows, ["list", ""])), repr((("a/", "c"),)))
        self.assertEqual(world_of(rows), world_of(SAW))

    def test_nothing_passed_is_changed(self):
        rows = [[["list", ""], ["a/", "c"]], [["read", "d"], None], [["read", "a/b"], "x"]]
        before = repr(rows)
        kept = least(rows)
        for call in (apart, world_of, least, lambda sights: follows(sights, sights[1]),
                     lambda sights: sure(sights, sights[0][0]), lambda sights: bars(sights[0], sights[1])):
            call(rows)
            self.assertEqual(repr(rows), before)
        rows[0][1].append("z")
        rows[0][0][1] = "q"
        self.assertEqual(kept, [SAW[0], SAW[2]])

    def test_returned_list_is_the_callers(self):
        least(SAW).clear()
        self.assertEqual(least(SAW), [SAW[0], SAW[2]])


class TestTogether(unittest.TestCase):
    """[6]"""

    BARRED = [
        (read("a", "x"), read("a", "y")), (read("a", "x"), read("a")), (read("a", "x"), read("a/b", "x")),
        (read("a", "x"), read("a/b/c/d", "y")), (read("a", ""), listed("a", "b")), (read("a", ""), listed("a/b", "c")),
        (read("a/b", "x"), listed("a")), (read("a/b/c", "x"), listed("a")), (read("a/b", "x"), EMPTY),
        (read("a/b", "x"), listed("a", "c")), (read("a/b", "x"), listed("a", "b/")), (read("a/b/c", "x"), listed("a", "b")),
        (read("a/b", "x"), listed("", "a")), (read("a/b", "x"), listed("", "b/")), (read("a", "x"), listed("", "a/")),
        (read("a"), listed("", "a")), (read("a/b"), listed("a", "b", "c")), (listed("a"), listed("a", "b")),
        (listed("a"), listed("", "a/")), (listed("a"), listed("a/b", "c")), (listed("a/b"), listed("a", "b/")),
        (listed("a", "b"), listed("a", "b/")), (listed("a", "b"), listed("a", "b", "c")), (listed("", "a"), listed("a", "b")),
        (listed("", "b/"), listed("a", "b")), (listed("a", "b"), listed("a/b", "c")), (EMPTY, listed("a", "b")),
        (listed("a", "c/"), listed("a/b/c", "d")), (setting("s", "x"), setting("s", "y")), (setting("s", "x"), setting("s")),
        (setting("s", ""), setting("s")), (tool("7"), tool("8")), (tool("7"), tool(""))]
    LET_BE = [
        (read("a", "x"), read("a", "x")), (read("a", "x"), read("ab", "y")), (read("a", "x"), read("b/a", "x")),
        (read("a", "x"), listed("a")), (read("a", "x"), listed("a/b")), (read("a/b", "x"), listed("b")),
        (read("a/b", "x"), listed("ab")), (read("a/b", "x"), listed("a", "b")), (read("a/b/c", "x"), listed("a", "b/")),
        (read("a/b/c", "x"), listed("", "a/")), (read("a"), read("b")), (read("a"), listed("a")), (read("a"), listed("a", "b")),
        (read("a"), listed("", "a/")), (read("a/b"), listed("", "a/")), (read("a"), EMPTY), (listed("a"), listed("a/b")),
        (listed("a"), listed("", "a")), (listed("a/b"), listed("", "a/")), (listed("a/b"), listed("a", "b")), (listed("a"), EMPTY),
        (listed("", "a/"), listed("a", "b")), (listed("", "a/"), listed("a/b/c", "d")), (listed("a", "b"), listed("ab", "c")),
        (EMPTY, EMPTY), (setting("s", "x"), setting("t", "y")), (setting("s", "x"), setting("s", "x")), (tool("7"), tool("7")),
        (setting("a", "x"), read("a")), (setting("a"), read("a", "x")), (tool("x"), read("a")), (setting("s"), setting("t", ""))]

    def test_bars(self):
        for one, other in self.BARRED:
            self.assertIs(bars(one, other), True, (one, other))
            self.assertIs(bars(other, one), True, (other, one))
        for one, other in self.LET_BE:
            self.assertIs(bars(one, other), False, (one, other))
            self.assertIs(bars(other, one), False, (other, one))

    def test_apart(self):
        self.assertIsNone(apart([]))
        self.assertIsNone(apart([SAW[0]] * 3))
        self.assertEqual(apart([read("a", "x"), setting("s"), listed("a", "b"), read("a/b")]), (0, 2))
        self.assertEqual(apart([tool("1"), read("a"), read("b"), read("b", ""), tool("2"), read("a", "")]), (0, 4))
        self.assertEqual(apart((tool("1"), read("a"), read("b"), read("a", ""), read("b", ""))), (1, 3))
        self.assertEqual(apart([tool("1"), tool("1"), tool("2"), tool("3")]), (0, 2))
        self.assertIsInstance(apart([tool("1"), tool("2")]), tuple)

    def assert_true_there(self, sights):
        world = world_of(sights)
        for look, answer in sights:
            self.assertEqual(world.answer(look), tuple(answer) if isinstance(answer, list) else answer, (look, world.files()))
        return world

    def test_world_of(self):
        self.assertIsInstance(self.assert_true_there([]), World)
        for sight in RIGHT:
            self.assert_true_there([sight])
            self.assert_true_there([sight, sight])
        for pair in self.LET_BE:
            self.assert_true_there(list(pair))
        self.assert_true_there(SAW + [setting("s", "x"), setting("t"), setting("u", ""), tool("7")])

    def test_world_of_has_texts_only(self):
        world = world_of([setting("s"), setting("t", ""), read("a"), listed("b"), listed("", "c", "d/")])
        self.assertEqual(world.settings(), {"t": ""})
        self.assertEqual(world.answer(("list", "")), ("c", "d/"))
        for text in list(world.files().values()) + [world.tool]:
            self.assertIsInstance(text, str)

    def test_world_of_hard_ones(self):
        lacking = [read("a/b/" + name) for name in LETTERS]
        lacking += [read("a/b/" + one + other) for one in "ab" for other in LETTERS]
        self.assert_true_there([listed("a", "b/")] + lacking)
        self.assert_true_there([listed("a/b/c", "d/"), listed("", "a/"), listed("a", "a", "b/", "c/"), listed("a/b", "c/")])
        self.assert_true_there([listed("a", "a/", "b/"), listed("a/a/a"), listed("a/a/b"), read("a/a/a"), read("a/b/a/c", "x"),
                                listed("a/b", "a/"), read("a/b/a/a"), listed("a/b/a", "b/", "c")])
        self.assert_true_there([read("a/a/b", "x"), listed("", "a/"), listed("a", "a/", "b")])

    def test_world_is_the_same_again(self):
        for order in permutations(SAW + [read("a/c"), listed("a", "b", "c/")]):
            self.assertEqual(world_of(order), world_of(SAW + [read("a/c"), listed("a", "b", "c/")]))

    def test_what_was_returned_may_be_passed_on(self):
        sights = [listed("a/b/c/d/e/f", "g/")]
        for _ in range(30):
            path = list(world_of(sights).files())[0]
            sights = [listed(path, "abcdefgh/")]
        self.assertGreater(len(path.split("/")), 30)
        self.assertTrue(is_sight((("read", path), None)))
        self.assert_true_there(sights + [read(path)])

    def test_world_of_raises_apart(self):
        for sights, pair in (([tool("1"), read("a"), read("b"), read("a", ""), read("b", "")], (1, 3)),
                             ([SAW[0], SAW[0], read("c")], (0, 2))):
            for call in (world_of, least, lambda sights: follows(sights, read("a")), lambda sights: sure(sights, ("tool",))):
                with self.assertRaises(Apart) as caught:
                    call(sights)
                self.assertEqual((caught.exception.first, caught.exception.second), pair)


class TestFollowing(unittest.TestCase):
    """[7]"""

    NAMES = listed("a/b", "c", "d/")
    FROM = [
        (read("a/b", "x"), [read("a"), read("a/b/c"), read("a/b/c/d"), listed("a/b"), listed("a/b/c"), listed("a/b/c/d")],
         [read("a/b"), read("a/c"), read("ab"), read("a/bc"), listed("a"), listed("a/c"), listed("a/bc"), listed("a", "b"),
          listed("", "a/"), EMPTY, read("a/b", "y")]),
        (NAMES, [read("a"), read("a/b"), read("a/b/d"), read("a/b/e"), read("a/b/e/f/g"), listed("a/b/e"), listed("a/b/e/f"),
                 listed("a/b/c"), listed("a/b/c/e"), read("a/b/c/e"), read("a/b/c/e/f"), read("a/b/dd"), listed("a/b/cc")],
         [read("a/b/c"), read("a/b/c", ""), listed("a/b/d"), read("a/b/d/e"), listed("a/b/d/e"), read("b"), listed("b"),
          listed("a"), read("a/bc"), listed("a", "b/"), listed("", "a/"), read("ab"), listed("ab/c")]),
        (EMPTY, [read("a"), listed("a"), read("a/b"), listed("a/b/c")], [setting("a"), listed("a", "b"), read("a", "")]),
        (listed("", "a"), [listed("a"), read("a/b"), read("b"), listed("b/c")], [read("a"), read("a", "")]),
        (listed("a/b"), [read("a/b/c"), listed("a/b/c"), read("a/b/c/d"), listed("a/b/c/d")],
         [read("a/b"), read("a"), listed("a"), read("a/bc"), read("a/b", ""), listed("b"), EMPTY]),
        (read("a"), [], [listed("a"), read("a/b"), listed("a/b"), read("a", ""), EMPTY, setting("a")]),
        (setting("a"), [], [read("a"), listed("a"), setting("b"), setting("a", ""), tool("")]),
        (setting("a", "x"), [], [setting("a"), setting("b", "x"), read("a"), tool("x")]),
        (tool("x"), [], [setting("a"), tool("y"), read("a"), listed("a"), setting("a", "x")])]

    def test_follows_from_one(self):
        for sight, following, others in self.FROM:
            for other in [sight] + following:
                self.assertIs(follows([sight], other), True, (sight, other))
                self.assertEqual(sure([sight], other[0]), (other[1],))
                self.assertIs(follows([setting("q"), read("q"), sight], other), True)
            for other in others:
                self.assertIs(follows([sight], other), False, (sight, other))

    def test_from_nothing(self):
        for sight in RIGHT:
            self.assertIs(follows([], sight), False)
            self.assertIs(follows([sight], sight), True)
            self.assertIs(follows([sight, sight], sight), True)

    def test_no_two_follow_from_each_other(self):
        sights = [sight for sight, _, _ in self.FROM] + [other for row in self.FROM for other in row[1] + row[2]]
        for one in sights:
            for other in sights:
                self.assertEqual(follows([one], other) and follows([other], one), one == other)

    def test_errors_in_order(self):
        with self.assertRaises(BadSight) as caught:
            follows([tool("1"), tool("2"), None], None)
        self.assertEqual(caught.exception.index, 2)
        for thing in wrong_sights():
            for sights in ([], [tool("1")], (tool("1"), tool("2"), tool("3"))):
                with self.assertRaises(BadSight) as caught:
                    follows(sights, thing)
                self.assertEqual(caught.exception.index, len(sights))
        with self.assertRaises(Apart) as caught:
            follows([read("b"), tool("1"), tool("2")], tool("1"))
        self.assertEqual((caught.exception.first, caught.exception.second), (1, 2))

    def test_documents_example(self):
        self.assertEqual([apart(SAW), follows(SAW[:1], SAW[1]), least(SAW), sure(SAW, ("read", "a"))],
                         [None, True, [SAW[0], SAW[2]], (None,)])


class TestLeast(unittest.TestCase):
    """[8]"""

    def test_least(self):
        self.assertEqual(least([]), [])
        self.assertEqual(least((SAW[3], SAW[2], SAW[1], SAW[0])), [SAW[2], SAW[0]])
        self.assertEqual(least([read("a/b"), tool("1"), listed("a"), read("a/b"), tool("1"), listed("a")]),
                         [tool("1"), listed("a")])
        self.assertEqual(least([read("b"), read("a"), read("b"), read("a")]), [read("b"), read("a")])
        self.assertEqual(least([listed("a/b/c"), listed("a/b"), listed("a"), read("a", "x")]), [read("a", "x")])
        self.assertEqual(least([read("a"), listed("a", "b/"), listed("", "a/"), read("a/b"), read("a/b/c")]),
                         [listed("a", "b/"), listed("", "a/"), read("a/b/c")])

    def test_sure(self):
        for look in (("read", "a"), ("list", "a"), ("list", ""), ("setting", "s"), ("tool",)):
            self.assertIsNone(sure([], look))
            self.assertIsNone(sure([read("b", "x"), setting("t", ""), listed("c")], look))
        sights = [setting("s", "x"), setting("t"), tool(""), read("a/b", ""), listed("c", "d", "e/"), listed("f"), read("g")]
        for look, answer in ((("setting", "s"), ("x",)), (("setting", "t"), (None,)), (("tool",), ("",)),
                             (("read", "a/b"), ("",)), (("read", "a"), (None,)), (("list", "a"), None), (("list", ""), None),
                             (("list", "a/b"), (None,)), (("list", "c"), (("d", "e/"),)), (("list", "c/d"), (None,)),
                             (("list", "c/e"), None), (("read", "c/d"), None), (("read", "c/e"), (None,)),
                             (("read", "f"), None), (("read", "f/a"), (None,)), (("list", "f"), (None,)),
                             (("read", "g"), (None,)), (("list", "g"), None)):
            self.assertEqual(sure(sights, look), answer, look)
            self.assertEqual(sure(tuple(sights[::-1]), list(look)), answer, look)

    def test_sure_errors_in_order(self):
        with self.assertRaises(BadSight) as caught:
            sure([tool("1"), tool("2"), ()], ())
        self.assertEqual(caught.exception.index, 2)
        for look in list(ODD) + [("read", ""), ("tool", None), ("list", None), (("tool",),), ["read", ["a"]]]:
            with self.assertRaises(BadLook) as caught:
                sure([tool("1"), tool("2")], look)
            self.assertIs(caught.exception.look, look)
        with self.assertRaises(Apart) as caught:
            sure([tool("1"), tool("2")], ("tool",))
        self.assertEqual((caught.exception.first, caught.exception.second), (0, 1))


if __name__ == "__main__":
    unittest.main()
