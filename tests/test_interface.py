"""The interface: names of files, functions, methods and parameters."""

import importlib
import inspect
import unittest

from trueagain.books import Book, two_steps
from trueagain.judging import alike, is_reason, outcomes, parting, pruned, reasons
from trueagain.marks import Marks
from trueagain.patterns import matches, missed
from trueagain.rules import Fault, Rule, loose, wrong
from trueagain.run_texts import read_run, write_run
from trueagain.sights import apart, bars, follows, is_sight, least, sure, world_of
from trueagain.steps import Run, Step
from trueagain.telling import fitting, surely, tests
from trueagain.ties import Ties
from trueagain.tools import Tool
from trueagain.works import Work, again_needed
from trueagain.worlds import World, changes_between

FUNCTIONS = {
    "worlds": {"changes_between": ["one", "other"]},
    "sights": {"is_sight": ["thing"], "bars": ["one", "other"], "apart": ["sights"], "world_of": ["sights"],
               "follows": ["sights", "sight"], "least": ["sights"], "sure": ["sights", "look"]},
    "judging": {"outcomes": ["step"], "parting": ["one", "other"], "alike": ["one", "other"], "pruned": ["step"],
                "reasons": ["step", "run"], "is_reason": ["step", "run", "numbers"]},
    "books": {"two_steps": ["book", "world"]},
    "rules": {"loose": ["rule", "run"], "wrong": ["rule", "run", "world"]},
    "patterns": {"matches": ["pattern", "path"], "missed": ["patterns", "pattern"]},
    "works": {"again_needed": ["names", "runs", "world"]},
    "telling": {"fitting": ["trials"], "surely": ["trials"], "tests": ["run", "world"]},
    "run_texts": {"write_run": ["run"], "read_run": ["text"]},
}
METHODS = {
    ("worlds", "World"): {
        "__init__": ["self", "files", "settings", "tool"], "files": ["self"], "settings": ["self"],
        "answer": ["self", "look"], "after": ["self", "changes"], "__len__": ["self"],
        "__contains__": None, "__eq__": None},
    ("steps", "Step"): {
        "__init__": ["self", "tree"], "tree": ["self"], "looks": ["self"], "run": ["self", "world"], "__eq__": None},
    ("steps", "Run"): {
        "__init__": ["self", "sights", "outcome"], "note": ["self"], "holds": ["self", "world"], "__len__": ["self"],
        "__eq__": None},
    ("books", "Book"): {
        "__init__": ["self", "runs"], "runs": ["self"], "more": ["self", "run"], "says": ["self", "world"],
        "way": ["self", "world"], "__iter__": ["self"], "__len__": ["self"], "__eq__": None},
    ("rules", "Rule"): {
        "__init__": ["self", "sorts"], "sorts": ["self"], "note": ["self", "run"], "leaves": ["self", "run", "world"],
        "keeps": ["self", "other"], "__or__": None, "__and__": None, "__invert__": ["self"], "__iter__": ["self"],
        "__len__": ["self"], "__contains__": None, "__eq__": None},
    ("rules", "Fault"): {"__init__": ["self", "changes", "behind", "step"]},
    ("marks", "Marks"): {
        "__init__": ["self", "rule"], "add": ["self", "run"], "runs": ["self"], "found": ["self", "world"],
        "strays": ["self", "world"], "clash": ["self"], "__iter__": ["self"], "__len__": ["self"]},
    ("ties", "Ties"): {
        "__init__": ["self", "patterns", "settings", "tool"], "key": ["self", "world"], "leaves": ["self", "before", "now"],
        "holds": ["self", "world", "sight"], "loose": ["self", "run", "world"], "wrong": ["self", "run", "world"],
        "needless": ["self", "run", "world"]},
    ("works", "Work"): {
        "__init__": ["self", "parts"], "names": ["self"], "run": ["self", "world"], "again": ["self", "runs", "world", "rule"],
        "__len__": ["self"]},
    ("tools", "Tool"): {
        "__init__": ["self", "step", "rule", "world"], "change": ["self", "change"], "ask": ["self"], "branch": ["self", "name"],
        "go": ["self", "name"], "world": ["self"], "at": ["self"], "branches": ["self"], "runs": ["self"], "last": ["self"],
        "is_true": ["self"], "undo": ["self"], "copy": ["self"]},
}


class TestInterface(unittest.TestCase):

    def test_functions(self):
        for file, functions in FUNCTIONS.items():
            module = importlib.import_module("trueagain." + file)
            for word, names in functions.items():
                function = getattr(module, word)
                self.assertEqual(list(inspect.signature(function).parameters), names)
                self.assertEqual(function.__module__, module.__name__)

    def test_methods_stand_in_the_class_itself(self):
        for (file, word), methods in METHODS.items():
            found = getattr(importlib.import_module("trueagain." + file), word)
            self.assertEqual(found.__module__, "trueagain." + file)
            for method, names in methods.items():
                self.assertIn(method, vars(found))
                if names is not None:
                    self.assertEqual(list(inspect.signature(vars(found)[method]).parameters), names)

    def test_by_name(self):
        world = World(files={"a": "x"}, settings={"s": "t"}, tool="1")
        self.assertEqual(world.answer(look=("read", "a")), "x")
        behind = world.after(changes=[("drop", "a")])
        self.assertEqual(changes_between(one=world, other=behind), [("drop", "a")])
        sight = (("read", "a"), "x")
        self.assertIs(is_sight(thing=sight), True)
        self.assertIs(bars(one=sight, other=sight), False)
        self.assertIsNone(apart(sights=[sight]))
        self.assertEqual(world_of(sights=[sight]).files(), {"a": "x"})
        self.assertIs(follows(sights=[sight], sight=sight), True)
        self.assertEqual(least(sights=[sight]), [sight])
        self.assertEqual(sure(sights=[sight], look=("read", "a")), ("x",))

    def test_steps_by_name(self):
        step = Step(tree=("ask", ("read", "a"), [("x", ("end", "good"))], ("end", "bad")))
        world = World({"a": "x"})
        run = step.run(world=world)
        self.assertEqual(run, Run(sights=[(("read", "a"), "x")], outcome="good"))
        self.assertIs(run.holds(world=world), True)
        self.assertEqual(outcomes(step=step), ["bad", "good"])
        self.assertIsNone(parting(one=step, other=step))
        self.assertIs(alike(one=step, other=step), True)
        self.assertEqual(pruned(step=step), step)
        self.assertEqual(reasons(step=step, run=run), [(0,)])
        self.assertIs(is_reason(step=step, run=run, numbers=[0]), True)

    def test_books_and_rules_by_name(self):
        world = World({"a": "x"})
        run = Run([(("read", "a"), "x")], "good")
        book = Book(runs=[run])
        self.assertEqual(book.more(run=run), book)
        self.assertEqual(book.says(world=world), "good")
        self.assertEqual(book.way(world=world), list(run.sights))
        self.assertEqual(len(two_steps(book=book, world=World({}))), 2)
        rule = Rule(sorts=["contents"])
        self.assertEqual(rule.note(run=run), list(run.sights))
        self.assertIs(rule.leaves(run=run, world=world), True)
        self.assertIs(rule.keeps(other=rule), True)
        self.assertEqual(loose(rule=rule, run=run), [])
        self.assertIsNone(wrong(rule=rule, run=run, world=world))
        fault = Fault(changes=(), behind=world, step=None)
        self.assertEqual((fault.changes, fault.behind, fault.step), ((), world, None))

    def test_marks_patterns_and_ties_by_name(self):
        world = World({"a": "x"})
        run = Run([(("read", "a"), "x")], "good")
        marks = Marks(rule=Rule([]))
        self.assertIsNone(marks.add(run=run))
        self.assertEqual((marks.found(world=world), marks.strays(world=World({}))), ([0], [0]))
        self.assertIs(matches(pattern="*", path="a"), True)
        self.assertIsNone(missed(patterns=["*"], pattern="a"))
        ties = Ties(patterns=["a"], settings=["s"], tool=True)
        self.assertEqual(ties.key(world=world), ((("a", "x"),), (("s", None),), ""))
        self.assertIs(ties.leaves(before=world, now=world), True)
        self.assertIs(ties.holds(world=world, sight=(("read", "a"), "x")), True)
        self.assertEqual(ties.loose(run=run, world=world), [])
        self.assertIsNone(ties.wrong(run=run, world=world))
        self.assertEqual(ties.needless(run=run, world=world)[0], "tool")

    def test_works_telling_tools_and_texts_by_name(self):
        world = World({"a": "x"})
        step = Step(("end", "good"))
        run = step.run(world)
        work = Work(parts=[("s", step)])
        self.assertEqual(work.run(world=world), [run])
        self.assertEqual(work.again(runs=[run], world=world, rule=Rule([])), [("left", run)])
        self.assertEqual(again_needed(names=["s"], runs=[run], world=world), ["left"])
        self.assertEqual((fitting(trials=[(run, world, False)]), surely(trials=[]), tests(run=run, world=world)), ([], ([], []), []))
        live = Tool(step=step, rule=Rule([]), world=world)
        live.change(change=("drop", "a"))
        live.branch(name="b")
        live.go(name="main")
        self.assertEqual(live.branches(), ["main", "b"])
        self.assertEqual(read_run(text=write_run(run=run)), run)

    def test_nothing_equals_an_object_of_another_kind(self):
        world, step, rule = World({"a": "x"}), Step(("end", "good")), Rule([])
        run = step.run(world)
        things = [world, step, run, Book([run]), rule, Fault((), world, step), Marks(rule), Ties([]), Work([]), Tool(step, rule, world)]
        things += [None, 0, False, "", (), [], {}, ("end", "good"), [run], [()], {"a": "x"}]
        for at, one in enumerate(things[:10]):
            for other in things[:at] + things[at + 1:]:
                self.assertFalse(one == other)
                self.assertTrue(one != other)
            self.assertTrue(one == one)

    def test_defaults(self):
        world = World({})
        self.assertEqual((world.settings(), world.tool), ({}, ""))
        self.assertEqual(Book().runs(), [])
        self.assertEqual(Ties(["a"]).key(World({"a": ""}, {"s": ""}, "7")), ((("a", ""),), (), None))


if __name__ == "__main__":
    unittest.main()
