"""Steps, worlds, runs and books as large as callers pass them, and somewhat larger."""

import random
import unittest
from itertools import product

from test_sights import listed, read, setting, tool
from timed import Timed
from trueagain.books import Book, two_steps
from trueagain.judging import alike, is_reason, outcomes, parting, pruned, reasons
from trueagain.rules import SORTS, Rule, loose, wrong
from trueagain.sights import world_of
from trueagain.steps import Run, Step
from trueagain.worlds import World

NAMES = ["".join(letters) for letters in product("abcdefg", repeat=2)][:40]
PATHS = ["/".join(row) for count in (1, 2, 3) for row in product("abc", repeat=count)]
LOOKS = [("read", path) for path in PATHS] + [("list", path) for path in PATHS[:12]]
LOOKS += [("list", "")] + [("setting", name) for name in "stuv"] + [("tool",)]


def full_world(files=40):
    """A world of so many files in folders, and settings."""
    paths = ["a/b/c/d/e/" + name for name in NAMES[:10]] + ["a/b/" + name for name in NAMES[10:]]
    paths += ["b/" + name for name in NAMES] + ["c/a/" + name for name in NAMES]
    return World({path: "x" for path in paths[:files]}, {name: "x" for name in "st"}, "7")


def drawn_answer(draw, look):
    if look[0] == "list":
        names = draw.sample("abcd", draw.randint(1, 3))
        return draw.choice([tuple(name + draw.choice(["", "/"]) for name in sorted(names)), None if look[1] else ()])
    return draw.choice(["x", "y"]) if look[0] == "tool" else draw.choice(["x", "y", None])


def drawn_tree(draw, asks, depth, outcomes_told, above=()):
    """A tree with as many asks, as far as there is room, and how many it has."""
    if asks == 0 or depth == 0:
        return ("end", draw.choice(outcomes_told)), 0
    look = draw.choice([look for look in LOOKS if look not in above])
    answers = list({drawn_answer(draw, look): True for _ in range(3)})
    left = asks - 1
    parts = []
    for at in range(len(answers) + 1):
        part, used = drawn_tree(draw, -(-left // (len(answers) + 1 - at)), depth - 1, outcomes_told, above + (look,))
        left -= used
        parts.append(part)
    return ("ask", look, list(zip(answers, parts)), parts[-1]), asks - left


def chain(sights, outcome, other):
    """The tree that ends with the outcome if all sights are true, else with the other one."""
    tree = ("end", outcome)
    for look, answer in reversed(sights):
        tree = ("ask", look, [(answer, tree)], ("end", other))
    return tree


class TestSizes(Timed):

    def check_step(self, step, world):
        run = self.soon(step.run, world)
        left = self.soon(pruned, step)
        self.assertEqual(self.soon(outcomes, step), self.soon(outcomes, left))
        self.assertIsNone(self.soon(parting, step, left))
        self.assertTrue(self.soon(alike, step, step))
        found = self.soon(reasons, step, run)
        for row in found:
            self.assertTrue(self.soon(is_reason, step, run, row))
        self.assertGreater(len(found), 0)
        return left

    def test_steps_of_400_asks(self):
        for seed, told in product(range(6), (["good", "bad"], ["good"] * 60 + ["bad"], ["good"])):
            draw = random.Random(seed)
            tree, count = drawn_tree(draw, 400, 8, told)
            self.assertEqual(count, 400)
            step = self.soon(Step, tree)
            self.assertGreater(len(step.looks()), 30)
            self.check_step(step, full_world())
            other = Step(drawn_tree(draw, 400, 8, told)[0])
            world = self.soon(parting, step, other)
            self.assertEqual(world is None, len(outcomes(step)) == 1 and outcomes(step) == outcomes(other))
            if world is not None:
                self.assertNotEqual(step.run(world).outcome, other.run(world).outcome)

    def test_asks_in_another_order(self):
        for word in ("setting", "read", "list"):
            looks = [(word, name) for name in "abcdefgh"]
            answer = ("a",) if word == "list" else "x"
            one, other = Step(self.parity(looks, answer, 0)), Step(self.parity(looks[::-1], answer, 0))
            self.assertIsNone(self.soon(parting, one, other))
            odd = Step(self.parity(looks[:7], answer, 0))
            world = self.soon(parting, one, odd)
            self.assertNotEqual(one.run(world).outcome, odd.run(world).outcome)
            self.assertEqual(self.soon(reasons, one, one.run(world)), [tuple(range(8))])

    def parity(self, looks, answer, count):
        if not looks:
            return ("end", "odd" if count % 2 else "even")
        return ("ask", looks[0], [(answer, self.parity(looks[1:], answer, count + 1))], self.parity(looks[1:], answer, count))

    def test_folders_of_40_names(self):
        rows = [tuple(NAMES), tuple(name + "/" for name in NAMES), tuple(name + "/" * (at % 2) for at, name in enumerate(NAMES))]

        def tree(places, count):
            if not places:
                return ("end", "odd" if count % 2 else "even")
            return ("ask", ("list", places[0]), [(row, tree(places[1:], count + at)) for at, row in enumerate(rows)],
                    tree(places[1:], count))
        for places in (["", "aa", "ab", "ac", "ad"], ["/".join(["ab"] * count) for count in range(5)], list("abcde")):
            step = self.soon(Step, tree(places, 0))
            self.check_step(step, full_world())
            self.assertIsNone(self.soon(parting, step, Step(tree(places[::-1], 0))))

    def test_books_of_20_runs(self):
        looks = [("read", "a/b/" + name) for name in NAMES[:4]] + [("list", "a/b"), ("list", "b"), ("setting", "s"), ("tool",),
                 ("list", ""), ("read", "c"), ("setting", "t"), ("read", "d")]
        world = full_world()
        runs = [Run([(look, world.answer(look)) for look in looks], "good")]
        for at in range(1, 20):
            there = World({"a/b/" + NAMES[at % 4]: str(at), "c": str(at // 4)}, {"s": str(at)}, "7")
            runs.append(Run([(look, there.answer(look)) for look in looks], str(at)))
        book = self.soon(Book, runs)
        self.assertEqual((len(book), book.says(world)), (20, "good"))
        elsewhere = world.after([("tool", "8")])
        pair = self.soon(two_steps, book, elsewhere)
        self.assertEqual(self.soon(book.way, elsewhere)[-1], tool("8"))
        for step in pair:
            self.assertEqual([step.run(world_of(run.sights)) for run in runs], runs)
            self.check_step(step, elsewhere)
            self.assertEqual(Step(step.tree()), step)
        self.assertIsNotNone(self.soon(parting, *pair))
        self.assertEqual(self.soon(Book, runs[::-1]), book)

    def test_rules_and_worlds_of_40_files(self):
        for files in (40, 110):
            world = full_world(files)
            sights = [(look, world.answer(look)) for look in [("list", ""), ("list", "a/b"), ("read", "a/b/c/d"), ("read", "a"),
                      ("list", "q/r"), ("read", "a/b/c/d/e/aa"), ("read", "q"), ("setting", "s"), ("setting", "q"), ("tool",)]]
            run = self.soon(Run, sights, "good")
            self.assertEqual(run.note(), sights[:2] + sights[5:6] + sights[7:])
            for word in SORTS:
                rule = ~Rule([word])
                fault = self.soon(wrong, rule, run, world)
                self.assertEqual(fault is None, loose(rule, run) == [])
                self.assertTrue(fault is None or len(fault.changes) == 1)
            run = Run([read("a/b/c/d"), read("a/b")], "good")
            self.assertEqual(len(self.soon(wrong, Rule([]), run, world).changes), 11)
            self.assertEqual(len(wrong(Rule([]), Run([read("a")], ""), world).changes), 41)

    def test_runs_of_many_sights(self):
        sights = [setting("s" + name) for name in NAMES] + [read("a/" + name) for name in NAMES]
        sights += [listed(name, "b") for name in NAMES] + [tool("")]
        run = self.soon(Run, sights, "good")
        self.assertEqual(self.soon(run.note), sights)
        step = self.soon(Step, chain(sights[:60], "good", "bad"))
        self.assertEqual(self.soon(outcomes, step), ["bad", "good"])
        self.assertTrue(self.soon(alike, step, Step(chain(sights[:60][::-1], "good", "bad"))))
        self.assertEqual(self.soon(pruned, step), step)
        self.assertEqual(len(self.soon(two_steps, Book([run]), World({}, {}, "7"))), 2)

    def test_reasons_of_twelve_sights(self):
        sights = [read(name) for name in NAMES[:12]]
        step = Step(chain(sights, "good", "bad"))
        self.assertEqual(self.soon(reasons, step, step.run(World({}))), [tuple(range(12))])
        self.assertEqual(self.soon(reasons, step, step.run(World({NAMES[4]: ""}))), [(4,)])


if __name__ == "__main__":
    unittest.main()
