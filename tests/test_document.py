"""Every line of the document's example."""

import doctest
import unittest

EXAMPLE = '''
>>> from trueagain.worlds import World, changes_between
>>> world = World({"a/b": "x", "c": ""}, {"lang": "de"}, "7")
>>> [world.answer(("read", "a/b")), world.answer(("list", "")), world.answer(("list", "c")), len(world), "a" in world]
['x', ('a/', 'c'), None, 2, False]
>>> changes_between(world, world.after([("drop", "c"), ("put", "c/d", "y"), ("set", "lang", None)]))
[('drop', 'c'), ('put', 'c/d', 'y'), ('set', 'lang', None)]
>>> from trueagain.sights import apart, follows, least, sure
>>> saw = [(("list", ""), ("a/", "c")), (("read", "d"), None), (("read", "a/b"), "x"), (("list", "c"), None)]
>>> [apart(saw), follows(saw[:1], saw[1]), least(saw), sure(saw, ("read", "a"))]
[None, True, [(('list', ''), ('a/', 'c')), (('read', 'a/b'), 'x')], (None,)]
>>> apart([(("read", "a"), "x"), (("setting", "s"), None), (("list", "a"), ("b",)), (("read", "a/b"), None)])
(0, 2)
>>> from trueagain.steps import Run, Step
>>> step = Step(("ask", ("read", "a"), [("x", ("end", "good")), (None, ("ask", ("read", "b"), [(None, ("end", "bad"))], ("end", "good")))], ("end", "bad")))
>>> [step.run(World({"b": "y"})).sights, step.run(World({"b": "y"})).outcome, step.looks()]
[((('read', 'a'), None), (('read', 'b'), 'y')), 'good', [('read', 'a'), ('read', 'b')]]
>>> from trueagain.judging import outcomes, pruned, reasons
>>> [outcomes(step), reasons(step, step.run(World({"b": "y"}))), pruned(step) == step]
[['bad', 'good'], [(0, 1)], True]
>>> from trueagain.books import Book
>>> book = Book([step.run(World({"a": "x"})), step.run(World({}))])
>>> [book.says(World({"a": "x", "c": "z"})), book.says(World({"b": "y"})), book.way(World({"b": "y"}))]
['good', None, [(('read', 'a'), None), (('read', 'b'), 'y')]]
>>> from trueagain.rules import Rule, loose, wrong
>>> [loose(Rule(["contents"]), step.run(World({}))), wrong(Rule(["lacking"]), step.run(World({})), World({})), len(wrong(Rule([]), Run([(("read", "a/b"), "x")], "good"), World({"a/b": "x"})).changes)]
[[(('read', 'a'), None), (('read', 'b'), None)], None, 1]
>>> from trueagain.patterns import matches, missed
>>> [matches("a/**", "a"), matches("a/*/c", "a/b/c"), missed(["*", "*/**"], "**"), missed(["a/*"], "a/**")]
[True, True, None, 'a']
>>> from trueagain.ties import Ties
>>> ties = Ties(["a/**"])
>>> [ties.key(world), ties.holds(world, (("list", "a"), ("b",))), ties.loose(Run([(("read", "c"), "")], "good"), world)]
[((('a/b', 'x'),), (), None), True, [(('read', 'c'), '')]]
>>> from trueagain.works import Work, again_needed
>>> work = Work([("lint", step), ("all", Step(("ask", ("setting", "lint"), [("good", ("end", "green"))], ("end", "red"))))])
>>> [run.outcome for run in work.run(World({"a": "x"}))]
['good', 'green']
>>> again_needed(["lint", "all"], work.run(World({"a": "x"})), World({"a": "z"}))
['run', 'open']
>>> from trueagain.telling import fitting, surely
>>> [len(fitting([])), surely([(step.run(World({})), World({"a": "x"}), True)])]
[64, ([], ['lacking'])]
>>> from trueagain.tools import Tool
>>> tool = Tool(step, Rule(["contents"]), World({"a": "x"}))
>>> [tool.ask(), tool.change(("put", "a", "y")), tool.ask(), tool.change(("drop", "a")), tool.ask(), tool.is_true(), tool.undo()]
[('ran', 'good'), None, ('ran', 'bad'), None, ('ran', 'bad'), True, 'ask']
>>> from trueagain.run_texts import write_run
>>> write_run(Run([(("list", ""), ("a/", "c")), (("read", "d"), None)], "good"))
'list / : (a/ c)\\nread d : -\\nend : "good"'
'''


class TestDocument(unittest.TestCase):

    def test_example(self):
        lines = doctest.DocTestParser().get_doctest(EXAMPLE, {}, "example", None, None)
        self.assertEqual(len(lines.examples), 34)
        told = []
        failed, tried = doctest.DocTestRunner(verbose=False).run(lines, out=told.append)
        self.assertEqual((failed, tried, told), (0, 34, []))


if __name__ == "__main__":
    unittest.main()
