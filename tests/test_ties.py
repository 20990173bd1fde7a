"""Points 21 to 23: ties, what they hold, needless runs."""

import unittest

from odd import NO_NAMES, NO_STRINGS
from test_patterns import NO_KIND_OF_PATTERN
from test_sights import EMPTY, listed, read, setting, tool, wrong_sights
from told import is_told
from trueagain.errors import AgainError, BadName, BadPattern, BadSight, NotTrue
from trueagain.rules import Fault
from trueagain.steps import Run, Step
from trueagain.ties import Ties
from trueagain.worlds import World, changes_between

NO_KIND_OF_NAME = list(NO_STRINGS) + list(NO_NAMES)
WORLD = World({"a/b": "x", "a/c/d": "", "c": "y", "e/f": "z"}, {"s": "t", "u": ""}, "7")
NOTHING, ALL = Ties([]), Ties(["**"], ["s", "t", "u"], True)


class TestKeys(unittest.TestCase):
    """[21]"""

    def test_key(self):
        files = (("a/b", "x"), ("a/c/d", ""), ("c", "y"), ("e/f", "z"))
        for patterns, settings, with_tool, key in (
                ([], (), False, ((), (), None)),
                (["**"], [], False, (files, (), None)),
                (["**"], ["u", "s"], True, (files, (("s", "t"), ("u", "")), "7")),
                (["*"], ["s", "s", "q", "s"], False, ((("c", "y"),), (("q", None), ("s", "t")), None)),
                (["e/*", "a/*"], ("q", "p"), True, ((("a/b", "x"), ("e/f", "z")), (("p", None), ("q", None)), "7")),
                (["a/**", "**/d", "a/**"], (), False, (files[:2], (), None)),
                (["a/b", "a", "q/**"], (), False, (files[:1], (), None)),
                (["a", "a/c", "e"], (), True, ((), (), "7"))):
            for ties in (Ties(patterns, settings, with_tool), Ties(patterns=tuple(patterns), settings=tuple(settings), tool=with_tool)):
                self.assertEqual(ties.key(world=WORLD), key)
                self.assertIsInstance(ties.key(WORLD), tuple)
        self.assertEqual(Ties(["**"]).key(WORLD), (files, (), None))
        self.assertEqual(ALL.key(World({})), ((), (("s", None), ("t", None), ("u", None)), ""))
        self.assertEqual(NOTHING.key(World({})), ((), (), None))

    def test_leaves(self):
        for change, patterns, settings, with_tool, left in (
                (("put", "a/b", "y"), ["a/b"], (), False, False), (("put", "a/b", "y"), ["a/*/**"], (), False, False),
                (("put", "a/b", "y"), ["a", "*", "a/*/*", "c/**"], ["s"], True, True), (("put", "a/b", "x"), ["**"], (), True, True),
                (("drop", "a/c/d"), ["**/d"], (), False, False), (("drop", "a/c/d"), ["a/c", "a/*"], (), False, True),
                (("put", "q", ""), ["q"], (), False, False), (("put", "q", ""), ["q/**"], (), False, False),
                (("put", "q", ""), ["q/*"], (), False, True), (("set", "s", ""), ["**"], ["s"], False, False),
                (("set", "s", ""), ["**"], ["u", "t"], True, True), (("set", "s", None), [], ["s"], False, False),
                (("set", "q", ""), [], ["q"], False, False), (("set", "q", None), [], ["q"], False, True),
                (("tool", "8"), ["**"], ["s"], False, True), (("tool", "8"), [], (), True, False), (("tool", "7"), [], (), True, True)):
            ties = Ties(patterns, settings, with_tool)
            self.assertIs(ties.leaves(before=WORLD, now=WORLD.after([change])), left, (change, patterns))
            self.assertIs(ties.leaves(WORLD.after([change]), WORLD), left)
            self.assertIs(ties.leaves(WORLD, WORLD), True)
        self.assertIs(NOTHING.leaves(WORLD, World({})), True)
        self.assertIs(ALL.leaves(WORLD, WORLD.after([("set", "q", "")])), True)

    def test_bad_patterns(self):
        for thing in NO_KIND_OF_PATTERN:
            for patterns, settings in (([thing], ()), (["a", thing, None], [None]), (("**", thing), ("A", "s"))):
                with self.assertRaises(BadPattern) as caught:
                    Ties(patterns, settings)
                self.assertIs(caught.exception.thing, thing)
                self.assertIsInstance(caught.exception, AgainError)

    def test_bad_settings(self):
        for thing in NO_KIND_OF_NAME:
            for settings in ([thing], ("s", thing), ["s", "s", thing, None], [thing, thing]):
                with self.assertRaises(BadName) as caught:
                    Ties(["a"], settings)
                self.assertIs(caught.exception.name, thing)
                self.assertIsInstance(caught.exception, AgainError)

    def test_lists_are_the_callers_own(self):
        patterns, settings = ["a/**"], ["u", "s", "u"]
        ties = Ties(patterns, settings)
        key = ties.key(WORLD)
        self.assertEqual((patterns, settings), (["a/**"], ["u", "s", "u"]))
        patterns.append("**")
        settings.append("q")
        self.assertEqual(ties.key(WORLD), key)
        self.assertEqual(key, ((("a/b", "x"), ("a/c/d", "")), (("s", "t"), ("u", "")), None))

    def test_none_equals_an_object_of_another_kind(self):
        for thing in (None, ["a"], (["a"], (), False), ("a",), "a", 0, False):
            self.assertFalse(Ties(["a"]) == thing)
            self.assertTrue(Ties(["a"]) != thing)


class TestHolds(unittest.TestCase):
    """[22]: holds."""

    def assert_holds(self, patterns, world, held, loose, settings=(), with_tool=False):
        ties = Ties(patterns, settings, with_tool)
        for sights, told in ((held, True), (loose, False)):
            for look, answer in sights:
                self.assertEqual(world.answer(look), answer)
                self.assertIs(ties.holds(world=world, sight=(look, answer)), told, (patterns, look))
                shown = list(answer) if isinstance(answer, tuple) else answer
                self.assertIs(ties.holds(world, [list(look), shown]), told)

    def test_nothing_and_all(self):
        sights = [read("a/b", "x"), read("a"), read("q"), read("c/q"), listed("", "a/", "c", "e/"), listed("a", "b", "c/"), listed("c"),
                  listed("q/r"), setting("s", "t"), setting("t"), tool("7")]
        self.assert_holds([], WORLD, [], sights)
        self.assert_holds(["**"], WORLD, sights, [], ["s", "t"], True)
        self.assert_holds(["**"], WORLD, sights[:-3], sights[-3:])
        self.assert_holds(["**"], World({}), [EMPTY, listed("a"), read("a"), setting("s")], [tool("")], ["s"])
        self.assert_holds([], World({}), [tool("")], [EMPTY, listed("a"), read("a"), setting("s")], ["t"], True)

    def test_contents(self):
        self.assert_holds(["a/*"], WORLD, [read("a/b", "x")], [read("c", "y"), read("a/c/d", "")])
        self.assert_holds(["a/b/**", "a"], WORLD, [read("a/b", "x")], [read("a/c/d", ""), read("e/f", "z")])

    def test_lacking(self):
        self.assert_holds(["q"], WORLD, [read("q")], [read("q/r"), read("r"), read("a")])
        self.assert_holds(["a/b"], WORLD, [read("a"), read("a/b/c"), read("a/b/c/d")], [read("a/c"), read("a/d"), read("ab")])
        self.assert_holds(["a/c/*"], WORLD, [read("a"), read("a/c"), read("a/c/d/e")], [read("a/b/c"), read("e"), read("c/d")])
        self.assert_holds(["*"], WORLD, [read("a"), read("q"), read("c/q"), read("c/q/r"), read("e")], [read("q/r"), read("a/d"), read("a/c")])

    def test_no_folder(self):
        self.assert_holds(["c"], WORLD, [listed("c"), listed("c/q"), listed("c/q/r")], [listed("q"), listed("a/b"), listed("cc")])
        self.assert_holds(["c/*"], WORLD, [], [listed("c"), listed("c/q"), listed("c/q/r")])
        self.assert_holds(["c/*/**"], WORLD, [listed("c"), listed("c/q"), listed("c/q/r")], [listed("q")])
        self.assert_holds(["q/**"], WORLD, [listed("q"), listed("q/r")], [listed("c"), listed("r")])
        self.assert_holds(["q"], WORLD, [], [listed("q"), listed("q/r")])
        self.assert_holds(["**/q/**"], WORLD, [listed("q"), listed("a/q"), listed("a/b/q"), listed("q/r")], [listed("c"), listed("a/b")])
        self.assert_holds(["**/q/*/**"], WORLD, [listed("q"), listed("a/q"), listed("q/r")], [listed("c"), listed("a/b"), listed("r")])

    def test_no_folder_tied_by_several_patterns_together(self):
        for patterns in (["q/*", "q/*/*/**"], ["q/*", "q/*/*", "q/*/*/*/**"], ["*/*", "*/*/*/**"], ["**/*/*"], ["q/*", "**/*/*/*"],
                         ["*/*", "*/*/*", "*/*/*/*/**"], ["q/**/*/*", "q/*"]):
            self.assert_holds(patterns, WORLD, [listed("q")], [])
            self.assert_holds(["r/**", "*", "**/r"] + patterns[::-1], WORLD, [listed("q")], [])
            for at in range(len(patterns)):
                self.assert_holds(patterns[:at] + patterns[at + 1:], WORLD, [], [listed("q")])

    def test_no_folder_where_only_a_long_path_is_left_out(self):
        self.assert_holds(["q/*", "q/*/*", "q/*/*/*", "q/*/*/*/*", "q/*/*/*/*/*"], WORLD, [], [listed("q")])
        self.assert_holds(["q/*", "q/*/*", "q/*/*/*", "q/*/*/*/*/*/**"], WORLD, [], [listed("q"), listed("q/r")])
        self.assert_holds(["q/*", "q/*/*", "q/*/*/*/*/**"], WORLD, [listed("q/r/s/t")],
                          [listed("q"), listed("q/r"), listed("q/r/s")])

    def test_names(self):
        self.assert_holds(["a/**"], WORLD, [listed("a", "b", "c/"), listed("a/c", "d")], [listed("", "a/", "c", "e/"), listed("e", "f")])
        self.assert_holds(["a/*"], WORLD, [], [listed("a", "b", "c/"), listed("a/c", "d")])
        self.assert_holds(["a/*/**"], WORLD, [listed("a", "b", "c/"), listed("a/c", "d")], [])
        self.assert_holds(["*/*/**"], WORLD, [listed("a", "b", "c/"), listed("e", "f")], [listed("", "a/", "c", "e/")])
        self.assert_holds(["a/*", "a/*/*/**"], WORLD, [listed("a", "b", "c/"), listed("a/c", "d")], [])
        self.assert_holds(["a/*", "a/*/*/*/**"], WORLD, [], [listed("a", "b", "c/"), listed("a/c", "d")])

    def test_names_of_files_and_folders_that_are_tied_or_not(self):
        world = World({"p/b": "", "p/c/d": "", "p/c/e/f": "", "p/g/h": ""})
        names = listed("p", "b", "c/", "g/")
        self.assert_holds(["p/*/**"], world, [names], [])
        # Names that are there may be tied by less, and what is left of them is free.
        self.assert_holds(["p/*", "p/*/*", "p/*/*/*/**"], world, [names], [])
        self.assert_holds(["p/*", "p/*/d", "p/*/*/*/**"], world, [], [names])
        self.assert_holds(["p/b", "p/c/d", "p/g/h"], world, [], [names])
        for letter in "bcg":
            others = [other for other in "abcdefghijklmnopqrstuvwxyz" if other != letter]
            self.assert_holds(["p/" + other + "/**" for other in others], world, [], [names])
        self.assert_holds(["*", "p/q/*/**"], World({"p": ""}), [listed("p"), listed("p/q")], [listed("", "p")])

    def test_names_of_the_root(self):
        world = World({"a": "", "b/c": "", "b/d": ""})
        names = listed("", "a", "b/")
        self.assert_holds(["**"], world, [names], [])
        self.assert_holds(["*/**"], world, [names], [])
        self.assert_holds(["*", "*/c", "*/*/**"], world, [names], [])
        self.assert_holds(["*", "*/c", "**/*/*/*"], world, [], [names])
        self.assert_holds(["*", "*/*"], world, [], [names])
        self.assert_holds(["*/*/**"], world, [], [names])
        self.assert_holds(["a/**", "b/**"], world, [], [names])
        self.assert_holds(["*", "*/*/**"], World({}), [EMPTY], [])
        self.assert_holds(["*", "*/*/*/**"], World({}), [], [EMPTY])

    def test_bad_sights(self):
        for thing in wrong_sights():
            for ties in (NOTHING, ALL):
                with self.assertRaises(BadSight) as caught:
                    ties.holds(WORLD, thing)
                self.assertEqual(caught.exception.index, 0)
                self.assertIsInstance(caught.exception, AgainError)

    def test_untrue_sights(self):
        for sight in (read("a/b", "y"), read("a/b"), read("q", ""), read("a", "x"), EMPTY, listed("", "a/", "c"), listed("", "a", "c", "e/"),
                      listed("a"), listed("c", "d"), listed("q", "r/"), setting("s"), setting("s", ""), setting("t", ""), tool(""), tool("8")):
            for ties in (NOTHING, ALL):
                with self.assertRaises(NotTrue) as caught:
                    ties.holds(WORLD, sight)
                self.assertEqual(caught.exception.index, 0)
                self.assertIsInstance(caught.exception, AgainError)


class TestWrong(unittest.TestCase):
    """[22] and [18]: loose and wrong."""

    RUN = Run([read("a/b", "x"), read("q"), listed("c"), listed("a", "b", "c/"), setting("s", "t"), tool("7")], "good")

    def test_loose(self):
        sights = list(self.RUN.sights)
        for ties, numbers in ((NOTHING, range(6)), (ALL, []), (Ties(["**"]), [4, 5]), (Ties(["a/**"], ["s"]), [1, 2, 5]),
                              (Ties(["a/*", "q"], [], True), [2, 3, 4]), (Ties(["c"]), [0, 1, 3, 4, 5]), (Ties([], ["t", "s"], True), [0, 1, 2, 3])):
            self.assertEqual(ties.loose(run=self.RUN, world=WORLD), [sights[at] for at in numbers])
            self.assertEqual(ties.wrong(run=self.RUN, world=WORLD) is None, list(numbers) == [])
            self.assertEqual(ties.loose(Run(sights[::-1], ""), WORLD), [sights[at] for at in numbers][::-1])
        for ties in (NOTHING, ALL):
            self.assertEqual((ties.loose(Run([], ""), WORLD), ties.wrong(Run([], ""), WORLD)), ([], None))
        NOTHING.loose(self.RUN, WORLD).clear()
        self.assertEqual(NOTHING.loose(self.RUN, WORLD), sights)

    def test_not_true(self):
        worlds = [WORLD.after(changes) for changes in ([("put", "a/b", "")], [("put", "q", "")], [("drop", "c"), ("put", "c/d", "")],
                                                       [("put", "a/q", "")], [("set", "s", None)], [("tool", "")], [("tool", ""), ("drop", "a/b")])]
        for ties in (NOTHING, ALL, Ties(["a/**"], ["s"])):
            for world in worlds + [World({})]:
                untrue = [index for index, (look, answer) in enumerate(self.RUN.sights) if world.answer(look) != answer]
                for call in (ties.loose, ties.wrong, ties.needless):
                    with self.assertRaises(NotTrue) as caught:
                        call(self.RUN, world)
                    self.assertEqual(caught.exception.index, untrue[0])
                    self.assertIsInstance(caught.exception, AgainError)

    def assert_wrong(self, ties, sights, world, count):
        run = Run(sights, "good")
        fault = ties.wrong(run, world)
        self.assertIsInstance(fault, Fault)
        self.assertEqual(len(fault.changes), count, fault.changes)
        self.assertEqual(world.after(fault.changes), fault.behind)
        self.assertEqual(len(changes_between(world, fault.behind)), count)
        self.assertTrue(ties.leaves(world, fault.behind))
        self.assertFalse(run.holds(fault.behind))
        self.assertIsInstance(fault.step, Step)
        self.assertEqual(fault.step.run(world), run)
        self.assertNotEqual(fault.step.run(fault.behind).outcome, run.outcome)

    def test_one_change(self):
        for sight in self.RUN.sights:
            if sight != listed("c"):
                self.assert_wrong(NOTHING, [sight], WORLD, 1)
        self.assert_wrong(NOTHING, self.RUN.sights, WORLD, 1)
        self.assert_wrong(NOTHING, [EMPTY], World({}), 1)
        self.assert_wrong(Ties(["a/*"]), [listed("a", "b", "c/")], WORLD, 1)
        self.assert_wrong(Ties(["*", "*/*", "*/*/*"]), [EMPTY], World({}), 1)
        self.assert_wrong(Ties(["q/*", "q/*/*", "q/*/*/*", "q/*/*/*/*", "q/*/*/*/*/*"]), [listed("q")], WORLD, 1)

    def test_several_changes(self):
        world = World({"a/b": "", "a/c/d": "", "a/c/e": "", "b": "x"})
        self.assert_wrong(NOTHING, [read("a")], world, 4)
        self.assert_wrong(NOTHING, [read("a"), read("a/c")], world, 3)
        self.assert_wrong(NOTHING, [listed("b")], world, 2)
        self.assert_wrong(NOTHING, [read("b/c/d")], world, 2)
        self.assert_wrong(Ties(["a/b", "b"]), [read("a"), read("a/c"), listed("b")], world, 3)
        self.assert_wrong(Ties(["b/*"]), [listed("b")], world, 2)
        self.assert_wrong(Ties(["a"]), [read("a"), read("b/c")], world, 2)

    def test_names_that_go_file_by_file(self):
        world = World({"a/b/c": "", "a/b/d": "", "a/b/e/f": "", "a/g/h": "", "a/g/i": "", "a/k": ""})
        names = [listed("a", "b/", "g/", "k")]
        for patterns in ([], ["a/*"], ["a/*", "a/*/*"], ["a/b/**", "a/g/**"]):
            self.assert_wrong(Ties(patterns), names, world, 1)

    def test_nothing_passed_is_changed(self):
        fault = NOTHING.wrong(self.RUN, WORLD)
        self.assertIsInstance(fault.changes, tuple)
        self.assertEqual(WORLD, World({"a/b": "x", "a/c/d": "", "c": "y", "e/f": "z"}, {"s": "t", "u": ""}, "7"))
        sight = [["list", "a"], ["b", "c/"]]
        NOTHING.holds(WORLD, sight)
        self.assertEqual(sight, [["list", "a"], ["b", "c/"]])


class TestNeedless(unittest.TestCase):
    """[23]"""

    def assert_needless(self, ties, sights, world, beginnings=None):
        run = Run(sights, "good")
        change = ties.needless(run=run, world=world)
        if beginnings is None:
            self.assertIsNone(change)
            return
        self.assertIsInstance(change, tuple)
        behind = world.after([change])
        self.assertTrue(run.holds(behind), change)
        self.assertFalse(ties.leaves(world, behind), change)
        self.assertIn(change[0], beginnings)

    def test_nothing_is_tied(self):
        for sights in ([], [EMPTY], [read("a"), tool("")]):
            self.assert_needless(NOTHING, sights, World({}))

    def test_the_tool_and_settings(self):
        self.assert_needless(Ties([], [], True), [], WORLD, ["tool"])
        self.assert_needless(Ties([], [], True), [tool("7")], WORLD)
        self.assert_needless(Ties([], ["s", "q"]), [setting("s", "t")], WORLD, ["set"])
        self.assert_needless(Ties([], ["s", "q"]), [setting("s", "t"), setting("q")], WORLD)
        self.assert_needless(Ties([], ["s"], True), [setting("q"), tool("7")], WORLD, ["set"])
        for text in ("", "a", "b"):
            self.assert_needless(Ties([], ["s"]), [], World({}, {"s": text}), ["set"])
            self.assert_needless(Ties([], [], True), [], World({}, {}, text), ["tool"])
            self.assert_needless(Ties(["a"]), [], World({"a": text}), ["put", "drop"])

    def test_files_that_are_there(self):
        self.assert_needless(Ties(["a/b"]), [], WORLD, ["put", "drop"])
        self.assert_needless(Ties(["a/b"]), [read("a/b", "x")], WORLD)
        self.assert_needless(Ties(["a/b", "c"]), [read("a/b", "x")], WORLD, ["put", "drop"])
        self.assert_needless(Ties(["a/b"]), [listed("a", "b", "c/")], WORLD, ["put"])
        self.assert_needless(Ties(["a/b"]), [listed("", "a/", "c", "e/"), listed("a/b"), read("a")], WORLD, ["put", "drop"])

    def test_files_that_are_lacking(self):
        self.assert_needless(Ties(["q"]), [], WORLD, ["put"])
        self.assert_needless(Ties(["q"]), [read("q")], WORLD)
        self.assert_needless(Ties(["q"]), [listed("", "a/", "c", "e/")], WORLD)
        self.assert_needless(Ties(["q/r"]), [listed("q")], WORLD)
        self.assert_needless(Ties(["q/r"]), [listed("q/r"), read("q"), listed("q/r/s")], WORLD, ["put"])
        self.assert_needless(Ties(["*"]), [read("c", "y"), read("q")], WORLD, ["put"])
        self.assert_needless(Ties(["*"]), [read("c", "y"), listed("", "a/", "c", "e/")], WORLD)
        self.assert_needless(Ties(["a/*"]), [read("a/b", "x")], WORLD, ["put"])
        self.assert_needless(Ties(["a/*"]), [read("a/b", "x"), listed("a", "b", "c/")], WORLD)
        self.assert_needless(Ties(["a/*"]), [read("a/b", "x"), listed("", "a/", "c", "e/")], WORLD, ["put"])
        self.assert_needless(Ties(["a/*/*"]), [read("a/c/d", ""), listed("a", "b", "c/")], WORLD, ["put"])
        self.assert_needless(Ties(["a/*/*"]), [read("a/c/d", ""), listed("a", "b", "c/"), listed("a/c", "d")], WORLD)

    def test_files_that_cannot_be_put(self):
        self.assert_needless(Ties(["a"]), [], WORLD)
        self.assert_needless(Ties(["a/c"]), [], WORLD)
        self.assert_needless(Ties(["c/*", "c/**/q", "a/b/q/**"]), [], WORLD)
        self.assert_needless(Ties(["a", "e", "c/**/q"]), [read("q"), listed("c")], WORLD)

    def test_long_paths(self):
        self.assert_needless(Ties(["q/*/*/*/*/*"]), [read("q/r/s/t/u/v"), read("q")], WORLD, ["put"])
        self.assert_needless(Ties(["*/*/*/*/*/*"]), [listed("", "a/", "c", "e/"), listed("a", "b", "c/"), listed("e", "f")], WORLD, ["put"])
        self.assert_needless(Ties(["*/*/*/*/*/*"]), [listed("", "a/", "c", "e/"), listed("a", "b", "c/"), listed("e", "f"), listed("a/c", "d")],
                             WORLD)
        self.assert_needless(Ties(["**/q/**/r"]), [listed("", "a/", "c", "e/"), listed("e", "f"), listed("a/c", "d")], WORLD, ["put"])
        self.assert_needless(Ties(["**/q/**/r"]), [listed("", "a/", "c", "e/"), listed("e", "f"), listed("a", "b", "c/"), listed("a/c", "d")], WORLD)

    def test_all_is_looked_at(self):
        self.assert_needless(ALL, [setting(name, WORLD.answer(("setting", name))) for name in "stu"] + [tool("7")]
                             + [read(path, text) for path, text in WORLD.files().items()], WORLD, ["put"])
        self.assert_needless(ALL, [setting(name, WORLD.answer(("setting", name))) for name in "stu"] + [tool("7")]
                             + [read(path, text) for path, text in WORLD.files().items()]
                             + [listed("", "a/", "c", "e/"), listed("a", "b", "c/"), listed("a/c", "d"), listed("e", "f")], WORLD)
        self.assert_needless(Ties(["**"]), [EMPTY], World({}))
        self.assert_needless(Ties(["**"]), [read("a")], World({}), ["put"])


class TestDocumentSays(unittest.TestCase):

    def test_lines(self):
        world = World({"a/b": "x", "c": ""}, {"lang": "de"}, "7")
        ties = Ties(["a/**"])
        self.assertEqual([ties.key(world), ties.holds(world, (("list", "a"), ("b",))), ties.loose(Run([(("read", "c"), "")], "good"), world)],
                         [((("a/b", "x"),), (), None), True, [(("read", "c"), "")]])
        self.assertTrue(is_told("a/**", "a/b"))


if __name__ == "__main__":
    unittest.main()
