"""Points 1 to 4: names, paths, texts, worlds, looks and changes."""

import unittest

from odd import NO_NAMES, NO_PATHS, NO_STRINGS, NO_TEXTS, ODD, Touchy, Yes, endless
from trueagain.errors import BadChange, BadLook, BadName, BadPath, Blocked
from trueagain.worlds import World, changes_between


def hashable(things):
    found = []
    for thing in things:
        try:
            hash(thing)
        except TypeError:
            continue
        found.append(thing)
    return found


def differing(one, other):
    """All keys of two dicts that have unlike values, or a value in one of them alone."""
    return [key for key in set(one) | set(other) if one.get(key) != other.get(key)]


class TestMadeWorlds(unittest.TestCase):
    """[1] and [2]"""

    def assert_bad(self, error, name, thing, *args):
        with self.assertRaises(error) as caught:
            World(*args)
        self.assertIs(getattr(caught.exception, name), thing)

    def test_names_and_paths(self):
        for name in ("a", "z", "az", "abcdefgh", "zzzzzzzz"):
            self.assertEqual(World({name: ""}, {name: ""}).files(), {name: ""})
        deep = "/".join(["abcdefgh", "b"] * 40)
        for path in ("a/b", "a/b/c/d/e/f", "a/b/c/d/e/f/g/h/i", "abcdefgh/z", "a/a", deep):
            self.assertIn(path, World({path: "x"}))

    def test_bad_paths(self):
        for path in NO_PATHS + tuple(hashable(NO_TEXTS)) + (None, (), ("a",), "\ud800"):
            self.assert_bad(BadPath, "path", path, {"a": "x", path: "y", "B": "z"})

    def test_bad_names(self):
        for name in NO_NAMES + tuple(hashable(NO_TEXTS)) + (None, (), ("a",)):
            self.assert_bad(BadName, "name", name, {}, {"a": "x", name: "y", "B": "z"})

    def test_blocked(self):
        for one, other in (("a", "a/b"), ("a", "a/b/c"), ("a/b", "a/b/c"), ("a/b", "a/b/c/d/e/f")):
            self.assert_bad(Blocked, "path", other, {one: "", other: ""})
            self.assert_bad(Blocked, "path", one, {other: "", one: ""})
        self.assert_bad(Blocked, "path", "b/c", {"a/b": "", "b": "", "c/d": "", "b/c": "", "a": "", "c": ""})
        for one, other in (("a", "ab"), ("a", "ab/c"), ("a/b", "a/bc/d"), ("a/b", "b"), ("a/b/c", "a/c")):
            self.assertEqual(len(World({one: "", other: ""})), 2)

    def test_order_of_errors(self):
        self.assert_bad(BadPath, "path", "B", {"a": "", "a/b": "", "B": "", "C": ""}, {"D": ""})
        self.assert_bad(Blocked, "path", "a/b", {"a": "", "a/b": ""}, {"D": ""})
        self.assert_bad(BadName, "name", "a/b", {"a": "", "c/b": ""}, {"a/b": "", "": ""})

    def test_files_and_settings_ascend(self):
        world = World({"c": "1", "b/c": "2", "ba": "3", "b/a/b": "4"}, {"z": "1", "b": "2", "ab": "3"}, "t")
        self.assertEqual(list(world.files().items()), [("b/a/b", "4"), ("b/c", "2"), ("ba", "3"), ("c", "1")])
        self.assertEqual(list(world.settings().items()), [("ab", "3"), ("b", "2"), ("z", "1")])
        self.assertEqual(world.tool, "t")

    def test_any_texts(self):
        texts = ("", " ", "\n", "\x00", "\u00e4", "\U0001f600", "\ud800", "x" * 10000)
        for text in texts:
            world = World({"a": text}, {"a": text}, text)
            self.assertEqual((world.files(), world.settings(), world.tool), ({"a": text}, {"a": text}, text))

    def test_empty(self):
        world = World({})
        self.assertEqual((world.files(), world.settings(), world.tool, len(world)), ({}, {}, "", 0))
        self.assertTrue(world == World({}, {}, "") == World({}, None))

    def test_passed_dicts_are_copied(self):
        files, settings = {"b": "x", "a/c": "y"}, {"s": "1"}
        world = World(files, settings)
        self.assertEqual((list(files), settings), (["b", "a/c"], {"s": "1"}))
        files["b/d"] = settings["t"] = "new"
        files.pop("a/c")
        self.assertEqual((world.files(), world.settings()), ({"a/c": "y", "b": "x"}, {"s": "1"}))

    def test_returned_dicts_are_the_callers(self):
        world = World({"a": "x"}, {"s": "1"})
        world.files().clear()
        world.settings()["s"] = "2"
        self.assertEqual((world.files(), world.settings()), ({"a": "x"}, {"s": "1"}))

    def test_length_and_holding(self):
        world = World({"a/b": "x", "c": ""}, {"s": "1"})
        self.assertEqual(len(world), 2)
        self.assertIs("a/b" in world, True)
        for thing in ODD + (["a/b"], "a/b/", "s", "x", "a/", ("a/b",), Yes(), endless()):
            if not (isinstance(thing, str) and thing in ("a/b", "c")):
                self.assertIs(thing in world, False)

    def test_equality(self):
        world = World({"a": "x", "b": "y"}, {"s": "1", "t": "2"}, "7")
        self.assertTrue(world == World({"b": "y", "a": "x"}, {"t": "2", "s": "1"}, "7"))
        self.assertFalse(world != World({"b": "y", "a": "x"}, {"t": "2", "s": "1"}, "7"))
        for other in (World({"a": "x"}, {"s": "1", "t": "2"}, "7"), World({"a": "x", "b": "z"}, {"s": "1", "t": "2"}, "7"),
                      World({"a": "x", "b": "y"}, {"s": "1"}, "7"), World({"a": "x", "b": "y"}, {"s": "1", "t": "2"}),
                      {"a": "x", "b": "y"}, None, 7, "7", ({"a": "x", "b": "y"}, {"s": "1", "t": "2"}, "7"), Touchy):
            self.assertFalse(world == other)
            self.assertTrue(world != other)


class TestAnswers(unittest.TestCase):
    """[3]"""

    def setUp(self):
        self.world = World({"a/b": "x", "a/c/d": "y", "a/c/e": "", "ab": "z", "b/c/d/e/f/g": "w"}, {"s": "1", "e": ""}, "7")

    def test_read(self):
        for path, text in (("a/b", "x"), ("a/c/e", ""), ("ab", "z"), ("a", None), ("a/c", None), ("a/b/c", None),
                           ("z", None), ("abcdefgh", None), ("b/c/d/e/f/g", "w"), ("b/c/d/e/f", None)):
            self.assertEqual(self.world.answer(("read", path)), text)

    def test_list(self):
        for place, names in (("", ("a/", "ab", "b/")), ("a", ("b", "c/")), ("a/c", ("d", "e")), ("b", ("c/",)),
                             ("b/c/d/e/f", ("g",)), ("ab", None), ("a/b", None), ("z", None), ("a/c/d/e", None)):
            self.assertEqual(self.world.answer(("list", place)), names)
        self.assertEqual(World({}).answer(("list", "")), ())
        self.assertIsNone(World({}).answer(("list", "a")))
        self.assertIsInstance(self.world.answer(("list", "")), tuple)

    def test_names_ascend_by_names(self):
        world = World({"b": "", "ab/c": "", "a/c": "", "abc": "", "aa": "", "abcdefgh/z": "", "z": ""})
        self.assertEqual(world.answer(("list", "")), ("a/", "aa", "ab/", "abc", "abcdefgh/", "b", "z"))

    def test_setting_and_tool(self):
        self.assertEqual([self.world.answer(("setting", name)) for name in ("s", "e", "a")], ["1", "", None])
        self.assertEqual(self.world.answer(("tool",)), "7")
        self.assertEqual(World({}).answer(("tool",)), "")

    def test_lists_for_tuples(self):
        self.assertEqual(self.world.answer(["list", "a"]), ("b", "c/"))
        self.assertEqual(self.world.answer(["tool"]), "7")

    def test_bad_looks(self):
        wrong = [("read",), ("read", ""), ("read", "a", "b"), ("read", "a", None), ("list",), ("list", "/"), ("list", None),
                 ("setting",), ("setting", ""), ("setting", "a/b"), ("setting", None), ("tool", ""), ("tool", None),
                 ("tool", "a"), (("tool",),), "tool", ["read", ["a"]], ("read", ("a",)), ("Read", "a"), ("drop", "a"),
                 (("read", "a"), "x"), ["tool", []], {"tool"}, ("toolx",), ("read ", "a"), (b"read", "a"), ("", "a"),
                 (Touchy(), "a"), (Touchy(),)]
        wrong += [("read", thing) for thing in NO_STRINGS + NO_PATHS]
        wrong += [("list", thing) for thing in NO_STRINGS + NO_PATHS if not (isinstance(thing, str) and thing == "")]
        wrong += [("setting", thing) for thing in NO_STRINGS + NO_NAMES]
        for look in list(ODD) + wrong:
            with self.assertRaises(BadLook) as caught:
                self.world.answer(look)
            self.assertIs(caught.exception.look, look)


class TestChanges(unittest.TestCase):
    """[4]"""

    def setUp(self):
        self.world = World({"a/b": "x", "c": ""}, {"lang": "de"}, "7")

    def assert_bad(self, index, changes, world=None):
        with self.assertRaises(BadChange) as caught:
            (world or self.world).after(changes)
        self.assertEqual(caught.exception.index, index)

    def test_each(self):
        for change, world in (
                (("put", "a/c", "y"), World({"a/b": "x", "a/c": "y", "c": ""}, {"lang": "de"}, "7")),
                (("put", "c", "y"), World({"a/b": "x", "c": "y"}, {"lang": "de"}, "7")),
                (("put", "c", ""), self.world),
                (("drop", "a/b"), World({"c": ""}, {"lang": "de"}, "7")),
                (("set", "lang", "en"), World({"a/b": "x", "c": ""}, {"lang": "en"}, "7")),
                (("set", "s", ""), World({"a/b": "x", "c": ""}, {"lang": "de", "s": ""}, "7")),
                (("set", "lang", None), World({"a/b": "x", "c": ""}, {}, "7")),
                (("set", "s", None), self.world),
                (("tool", ""), World({"a/b": "x", "c": ""}, {"lang": "de"}, ""))):
            self.assertEqual(self.world.after([change]), world)
            self.assertEqual(self.world.after([list(change)]), world)
            self.assertEqual(self.world.after((change,)), world)

    def test_one_after_the_other(self):
        behind = self.world.after([("drop", "c"), ("put", "c/d", "y"), ("drop", "a/b"), ("put", "a", "z"),
                                   ("set", "s", "1"), ("set", "s", None), ("tool", "8"), ("tool", "9")])
        self.assertEqual(behind, World({"a": "z", "c/d": "y"}, {"lang": "de"}, "9"))
        self.assertEqual(list(behind.files()), ["a", "c/d"])

    def test_none(self):
        self.assertEqual(self.world.after([]), self.world)
        self.assertEqual(World({}).after([]), World({}))

    def test_nothing_is_changed(self):
        changes = [["put", "d", "y"], ["set", "s", "1"]]
        behind = self.world.after(changes)
        self.assertEqual(changes, [["put", "d", "y"], ["set", "s", "1"]])
        self.assertEqual(self.world, World({"a/b": "x", "c": ""}, {"lang": "de"}, "7"))
        changes[0][2] = "other"
        changes.clear()
        self.assertEqual(behind.files(), {"a/b": "x", "c": "", "d": "y"})

    def test_cannot_be_done(self):
        for change in (("put", "a", "y"), ("put", "a/b/c", "y"), ("put", "c/d/e/f", "y"), ("drop", "a"), ("drop", "z"),
                       ("drop", "c/d"), ("drop", "lang")):
            self.assert_bad(0, [change])
            self.assert_bad(1, [("tool", "8"), change, 5])
        self.assert_bad(1, [("drop", "c"), ("drop", "c")])
        self.assert_bad(1, [("put", "d", ""), ("put", "d/e", "")])
        self.assert_bad(2, [("drop", "c"), ("put", "c/d", ""), ("put", "c", "")])
        self.assert_bad(0, [("put", "a", "")], World({"a/b/c/d": ""}))

    def test_first_wrong_one(self):
        self.assert_bad(0, [("drop", "z"), 5])
        self.assert_bad(0, [5, ("drop", "z")])
        self.assert_bad(2, [("drop", "c"), ("put", "c", ""), ("put", "c/d", ""), None])

    def test_no_changes(self):
        wrong = [("put", "d"), ("put", "d", "x", "y"), ("put", "d", None), ("put", "", "x"), ("put", "D", "x"),
                 ("put", "d", b"x"), ("put", "d", ["x"]), ("put", ["d"], "x"), ("drop",), ("drop", ""), ("drop", "c", ""),
                 ("drop", "c", None), ("drop", ["c"]), ("set", "s"), ("set", "", "x"), ("set", "a/b", "x"), ("set", "s", 1),
                 ("set", "s", False), ("set", "s", "x", "y"), ("set", None, None), ("tool",), ("tool", None), ("tool", 7),
                 ("tool", "7", "8"), ("tool", "7", None), ("Put", "d", "x"), ("read", "c"), "drop", ["put", ["d", "x"]],
                 (("drop", "c"),), [["drop", "c"]], {"drop": "c"}, ("putx", "d", "x"), ("", "d", "x"),
                 (Yes(), "c"), (Yes(), "d", "x"), (Touchy(), "c"), (Touchy(), "d", "x")]
        wrong += [("put", "d", thing) for thing in NO_STRINGS]
        wrong += [("put", thing, "x") for thing in NO_STRINGS + NO_PATHS]
        wrong += [("drop", thing) for thing in NO_STRINGS + NO_PATHS]
        wrong += [("set", "s", thing) for thing in NO_STRINGS if thing is not None]
        wrong += [("set", thing, "x") for thing in NO_STRINGS + NO_NAMES]
        wrong += [("tool", thing) for thing in NO_STRINGS]
        for thing in list(ODD) + wrong:
            self.assert_bad(1, [("tool", "8"), thing, None])

    def test_documents_example(self):
        self.assertEqual([self.world.answer(("read", "a/b")), self.world.answer(("list", "")),
                          self.world.answer(("list", "c")), len(self.world), "a" in self.world],
                         ["x", ("a/", "c"), None, 2, False])
        behind = self.world.after([("drop", "c"), ("put", "c/d", "y"), ("set", "lang", None)])
        self.assertEqual(changes_between(self.world, behind),
                         [("drop", "c"), ("put", "c/d", "y"), ("set", "lang", None)])


class TestChangesBetween(unittest.TestCase):
    """[4]"""

    WORLDS = (World({}), World({"a": "x"}), World({"a": "y"}), World({"a/b": "x", "c": ""}, {"s": "1"}, "7"),
              World({"c/d": "x", "a/c": "", "a/b": "x"}, {"t": "1", "s": ""}), World({"a/b/c": "", "a/c": "x"}, {"s": "1"}),
              World({"b": "x", "a": "y"}, {"t": "", "a": "2"}, "8"))

    def test_order(self):
        one = World({"z": "1", "b/c": "2", "m": "3", "k": "4"}, {"z": "1", "b": "2", "m": "3"}, "1")
        other = World({"z/y": "1", "b": "2", "m": "4", "k": "4"}, {"y": "1", "b": "3", "m": "3", "a": ""}, "2")
        self.assertEqual(changes_between(one, other), [
            ("drop", "b/c"), ("drop", "z"), ("put", "b", "2"), ("put", "m", "4"), ("put", "z/y", "1"),
            ("set", "a", ""), ("set", "b", "3"), ("set", "y", "1"), ("set", "z", None), ("tool", "2")])

    def test_they_lead_there(self):
        for one in self.WORLDS:
            for other in self.WORLDS:
                self.assertEqual(one.after(changes_between(one, other)), other)

    def test_fewest(self):
        for one in self.WORLDS:
            for other in self.WORLDS:
                # No change mends more than one of these.
                unlike = differing(one.files(), other.files()) + differing(one.settings(), other.settings())
                self.assertEqual(len(changes_between(one, other)), len(unlike) + (one.tool != other.tool))

    def test_none(self):
        for world in self.WORLDS:
            self.assertEqual(changes_between(world, world.after([])), [])

    def test_returned_list_is_the_callers(self):
        one, other = self.WORLDS[0], self.WORLDS[3]
        changes_between(one, other).clear()
        self.assertEqual(len(changes_between(one, other)), 4)


if __name__ == "__main__":
    unittest.main()
