"""Points 14 and 15: books of known runs, and what is sure of a step that nobody reads."""

import unittest
from itertools import permutations

from test_sights import EMPTY, listed, read, setting, tool
from trueagain.books import Book, two_steps
from trueagain.errors import AgainError, Known, NotOne
from trueagain.sights import world_of
from trueagain.steps import Run, Step
from trueagain.worlds import World

STEP = Step(("ask", ("read", "a"), [("x", ("end", "good")), (None, ("ask", ("read", "b"), [(None, ("end", "bad"))],
                                                                        ("end", "good")))], ("end", "bad")))
X, NONE, OTHER = Run([read("a", "x")], "good"), Run([read("a"), read("b")], "bad"), Run([read("a"), read("b", "y")], "good")
# Runs of which no step has both.
CLASHING = [
    (Run([], "good"), Run([], "bad")), (Run([], "good"), X), (X, Run([read("b", "x")], "good")), (X, Run([read("a", "x")], "bad")),
    (X, Run([read("a", "x"), read("b")], "good")), (NONE, Run([read("a"), read("c")], "bad")), (NONE, Run([read("a")], "bad")),
    (NONE, Run([read("b"), read("a")], "bad")), (X, Run([listed("a")], "good")), (X, Run([setting("a", "x")], "good")),
    (NONE, Run([read("a"), read("b")], "good")), (NONE, Run([read("a"), listed("b")], "bad")), (X, Run([tool("x")], "bad")),
    (Run([read("a"), read("b", "x"), tool("7")], "good"), Run([read("a"), read("b", "x"), setting("s")], "good")),
    (Run([EMPTY], "good"), Run([listed("a")], "good")), (Run([read("a")], "good"), Run([listed("", "b")], "bad")),
]
# Runs that one step has.
TOGETHER = [
    (X, X), (X, NONE), (NONE, OTHER), (X, OTHER), (Run([], ""), Run([], "")), (X, Run([read("a", "y")], "good")),
    (X, Run([read("a", "y"), read("c")], "bad")), (X, Run([read("a"), tool("7"), setting("s")], "x")),
    (Run([EMPTY], "good"), Run([listed("", "a"), read("a", "x")], "bad")), (Run([listed("a")], "x"), Run([listed("a", "b")], "x")),
    (Run([read("a"), read("b", "x"), tool("7")], "good"), Run([read("a"), read("b", "y"), setting("s")], "good")),
    (Run([read("a"), read("b"), tool("7")], "good"), Run([read("a", "x"), tool("7"), read("b")], "good")),
]


class TestBooks(unittest.TestCase):
    """[14]"""

    def assert_clash(self, runs, first, second):
        with self.assertRaises(NotOne) as caught:
            Book(runs)
        self.assertEqual((caught.exception.first, caught.exception.second), (first, second))
        self.assertIsInstance(caught.exception, AgainError)

    def test_empty(self):
        for book in (Book(), Book([]), Book(()), Book(runs=[])):
            self.assertEqual((book.runs(), list(book), len(book)), ([], [], 0))
            self.assertEqual(book, Book())

    def test_runs(self):
        for runs in permutations([X, NONE, OTHER]):
            for told in (runs, list(runs), runs + runs[::-1]):
                book = Book(told)
                self.assertEqual(book.runs(), list(runs))
                self.assertEqual([run for run in book], list(runs))
                self.assertEqual(len(book), 3)
        book = Book([NONE, X, NONE, NONE, OTHER, X])
        self.assertEqual((book.runs(), len(book)), ([NONE, X, OTHER], 3))
        same = Run([[["read", "a"], "x"]], "good")
        self.assertEqual(Book([X, same]).runs(), [X])

    def test_runs_that_are_equal_stand_where_the_first_stood(self):
        first, again = Run([read("a", "x")], "good"), Run([read("a", "x")], "good")
        self.assertIs(Book([NONE, first, again]).runs()[1], first)

    def test_clashes(self):
        for one, other in CLASHING:
            self.assert_clash([one, other], 0, 1)
            self.assert_clash((other, one), 0, 1)
            self.assert_clash([one, one, other], 0, 2)
        for one, other in TOGETHER:
            self.assertEqual(Book([one, other]).runs(), [one, other] if one != other else [one])
            self.assertEqual(Book([other, one]).runs(), [other, one] if one != other else [one])

    def test_the_first_pair_is_told(self):
        bad_x, bad_other = Run([read("a", "x")], "bad"), Run([read("a"), read("b", "y")], "bad")
        self.assert_clash([X, OTHER, bad_other, bad_x], 0, 3)
        self.assert_clash([NONE, OTHER, X, bad_other, bad_x], 1, 3)
        self.assert_clash([NONE, NONE, X, X, bad_x, bad_other], 2, 4)
        self.assert_clash([Run([], ""), X, NONE], 0, 1)
        self.assert_clash([X, NONE, Run([], "")], 0, 2)

    def test_more(self):
        book = Book([X])
        more = book.more(run=NONE)
        self.assertIsInstance(more, Book)
        self.assertEqual((more.runs(), book.runs()), ([X, NONE], [X]))
        self.assertEqual(more.more(X).runs(), [X, NONE])
        self.assertEqual(Book().more(X), book)
        for run, number in ((Run([read("a", "x")], "bad"), 0), (Run([read("a"), read("b")], "x"), 1), (Run([], "good"), 0)):
            with self.assertRaises(NotOne) as caught:
                more.more(run)
            self.assertEqual((caught.exception.first, caught.exception.second), (number, 2))
        self.assertEqual(more.runs(), [X, NONE])

    def test_equal(self):
        books = [Book(runs) for runs in permutations([X, NONE, OTHER])] + [Book([X, X, OTHER, NONE, OTHER])]
        for one in books:
            for other in books:
                self.assertTrue(one == other)
                self.assertFalse(one != other)
        for other in (Book(), Book([X]), Book([X, NONE]), Book([X, NONE, Run([read("a"), read("b", "y")], "bad")]),
                      Book([X, NONE, OTHER, Run([read("a", "z")], "")]), Book([X, NONE, Run([read("a"), read("b", "z")], "good")]),
                      None, [X, NONE, OTHER], (X, NONE, OTHER), STEP, X):
            self.assertFalse(books[0] == other)
            self.assertTrue(books[0] != other)
        self.assertFalse(Book() == [])

    def test_lists_are_the_callers_own(self):
        runs = [X, NONE]
        book = Book(runs)
        runs.append(OTHER)
        runs[0] = None
        self.assertEqual(book.runs(), [X, NONE])
        book.runs().append(OTHER)
        book.runs().reverse()
        self.assertEqual((book.runs(), len(book)), ([X, NONE], 2))
        runs = [X, X]
        Book(runs)
        self.assertEqual(runs, [X, X])


class TestWhatIsSure(unittest.TestCase):
    """[15]"""

    BOOK = Book([X, NONE])

    def test_says(self):
        for files, outcome in (({"a": "x"}, "good"), ({"a": "x", "b": "y"}, "good"), ({}, "bad"), ({"c": "z", "a/b": ""}, "bad"),
                               ({"b": "y"}, None), ({"a": "y"}, None), ({"b": ""}, None)):
            self.assertEqual(self.BOOK.says(world=World(files)), outcome)
            self.assertIsNone(Book().says(World(files)))
            self.assertEqual(Book([Run([], "")]).says(World(files)), "")

    def test_way(self):
        for files, way in (({"a": "x"}, [read("a", "x")]), ({"a": "y"}, [read("a", "y")]), ({"b": ""}, [read("a"), read("b", "")]),
                           ({}, [read("a"), read("b")])):
            self.assertEqual(self.BOOK.way(world=World(files)), way)
            self.assertEqual(Book().way(World(files)), [])
            self.assertEqual(Book([Run([], "x")]).way(World(files)), [])
        self.BOOK.way(World({})).clear()
        self.assertEqual(len(self.BOOK.way(World({}))), 2)

    def test_way_goes_on_where_some_known_run_does(self):
        runs = [Run([tool("1"), listed("", "a"), setting("s"), read("a", "x")], "one"), Run([tool("1"), EMPTY], "two"),
                Run([tool("2"), listed("b"), setting("t", "y")], "three"), Run([tool("1"), listed("", "a"), setting("s", "")], "")]
        for book in (Book(runs), Book(runs[::-1])):
            for world, way in ((World({}, {}, "1"), [tool("1"), EMPTY]), (World({"b": ""}, {}, "1"), [tool("1"), listed("", "b")]),
                               (World({"a": "x"}, {}, "1"), list(runs[0].sights)), (World({}, {}, "3"), [tool("3")]),
                               (World({"a": "y"}, {}, "1"), list(runs[0].sights[:3]) + [read("a", "y")]),
                               (World({"a": ""}, {"s": ""}, "1"), list(runs[3].sights)),
                               (World({"a": ""}, {"s": "q"}, "1"), [tool("1"), listed("", "a"), setting("s", "q")]),
                               (World({"b/c": ""}, {}, "2"), [tool("2"), listed("b", "c")]),
                               (World({}, {}, "2"), [tool("2"), listed("b"), setting("t")])):
                self.assertEqual(book.way(world), way)

    def test_two_steps(self):
        books = [self.BOOK, Book(), Book([X]), Book([OTHER, NONE]), Book([Run([read("a"), read("b")], "a"), Run([read("a", "x")], "b")])]
        for book in books:
            for files in ({"b": "z"}, {"a": "y"}, {"a": "q", "b": "x"}, {"b": ""}):
                world = World(files)
                pair = two_steps(book=book, world=world)
                self.assertIsInstance(pair, tuple)
                self.assertEqual(len(pair), 2)
                self.assertNotEqual(pair[0].run(world).outcome, pair[1].run(world).outcome)
                for step in pair:
                    self.assertIsInstance(step, Step)
                    for run in book:
                        self.assertEqual(step.run(world_of(run.sights)), run)

    def test_known(self):
        for book, files, outcome in ((self.BOOK, {"a": "x"}, "good"), (self.BOOK, {}, "bad"), (Book([Run([], "")]), {"c": ""}, ""),
                                     (Book([Run([], "a")]), {}, "a")):
            with self.assertRaises(Known) as caught:
                two_steps(book, World(files))
            self.assertEqual(caught.exception.outcome, outcome)
            self.assertIsInstance(caught.exception, AgainError)

    def test_document_says(self):
        book = Book([STEP.run(World({"a": "x"})), STEP.run(World({}))])
        self.assertEqual([book.says(World({"a": "x", "c": "z"})), book.says(World({"b": "y"})), book.way(World({"b": "y"}))],
                         ["good", None, [(("read", "a"), None), (("read", "b"), "y")]])


if __name__ == "__main__":
    unittest.main()
