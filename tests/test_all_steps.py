"""Points 9 to 18 against many worlds: what is said of drawn steps and runs is so in each of them."""

import random
import unittest
from itertools import combinations

from drawn import chain_space, mixed_space, tree_space
from trueagain.books import Book, two_steps
from trueagain.errors import Known, NotOne
from trueagain.judging import alike, is_reason, outcomes, parting, pruned, reasons
from trueagain.rules import SORTS, Rule, loose, wrong
from trueagain.sights import follows, world_of
from trueagain.steps import Run, Step
from trueagain.worlds import changes_between


def subsets(things, counts=None):
    """All rows of some of the things, fewer ones first."""
    for count in range(len(things) + 1) if counts is None else counts:
        yield from combinations(things, count)


class InSpaces(unittest.TestCase):

    @classmethod
    def setUpClass(cls):
        cls.spaces = [tree_space(), mixed_space(), chain_space()]

    def setUp(self):
        self.draw = random.Random(self.id())

    def drawn(self, count, depth):
        """So many spaces with a step each."""
        for at in range(count):
            space = self.spaces[at % 3]
            yield space, space.step(self.draw, 1 + at % depth)

    def drawn_runs(self, count, depth):
        """So many spaces with a step, a world and the run there each."""
        for space, step in self.drawn(count, depth):
            world = space.world(self.draw)
            yield space, step, world, step.run(world)


class TestSteps(InSpaces):

    def test_runs(self):
        for space, step, world, run in self.drawn_runs(600, 6):
            self.assertTrue(run.holds(world))
            self.assertEqual([world.answer(look) for look, _ in run.sights], [answer for _, answer in run.sights])
            number = 1 << space.worlds.index(world)
            self.assertEqual([bits & number > 0 for outcome, bits in space.ends(step.tree(), space.everywhere).items()
                              if outcome == run.outcome], [True])

    def test_a_run_holds_just_where_its_least_note_is_true(self):
        for space, _, _, run in self.drawn_runs(300, 6):
            note, there = run.note(), space.where(run.sights)
            self.assertTrue(space.where(note) == there, run.sights)
            for fewer in subsets(run.sights, range(len(note))):
                self.assertFalse(space.where(fewer) == there, (run.sights, fewer))
            for world in self.draw.sample(space.worlds, 20):
                self.assertIs(run.holds(world), all(world.answer(look) == answer for look, answer in note))

    def test_a_step_has_a_run_just_where_it_holds(self):
        for space, step, _, run in self.drawn_runs(200, 5):
            for world in self.draw.sample(space.worlds, 20):
                self.assertIs(step.run(world) == run, run.holds(world))
            self.assertEqual(step.run(world_of(run.sights)), run)


class TestJudging(InSpaces):

    def test_outcomes(self):
        for space, step in self.drawn(600, 6):
            self.assertEqual(outcomes(step), sorted(space.ends(step.tree(), space.everywhere)))

    def test_pruned(self):
        smaller = 0
        for space, step in self.drawn(800, 6):
            left = pruned(step)
            self.assertEqual(left, Step(space.pruned(step.tree(), space.everywhere)), step.tree())
            self.assertTrue(space.ends(left.tree(), space.everywhere) == space.ends(step.tree(), space.everywhere))
            self.assertTrue(alike(step, left))
            self.assertEqual(pruned(left), left)
            smaller += left != step
        self.assertGreater(smaller, 300)

    def test_parting(self):
        counts = [0, 0]
        for at, (space, step) in enumerate(self.drawn(900, 5)):
            other = space.step(self.draw, 1 + at % 4, step.run(space.worlds[0]).outcome.split() + ["bad"])
            same = space.ends(step.tree(), space.everywhere) == space.ends(other.tree(), space.everywhere)
            self.check_parting(step, other, same)
            counts[same] += 1
        self.assertGreater(min(counts), 90)

    def check_parting(self, one, other, same):
        for first, second in ((one, other), (other, one)):
            world = parting(first, second)
            self.assertIs(alike(first, second), same)
            self.assertEqual(world is None, same, (first.tree(), second.tree()))
            self.assertEqual(parting(first, second), world)
            if world is not None:
                self.assertNotEqual(first.run(world).outcome, second.run(world).outcome)

    def test_parting_of_steps_that_differ_at_one_end(self):
        parted = 0
        for space, step in self.drawn(400, 6):
            other = Step(self.with_odd_end(step.tree()))
            same = space.ends(step.tree(), space.everywhere) == space.ends(other.tree(), space.everywhere)
            self.check_parting(step, other, same)
            parted += not same
        self.assertTrue(100 < parted < 400)

    def with_odd_end(self, tree):
        if tree[0] == "end":
            return ("end", "odd")
        _, look, cases, other = tree
        at = self.draw.randint(0, len(cases))
        if at == len(cases):
            return ("ask", look, cases, self.with_odd_end(other))
        return ("ask", look, [(answer, self.with_odd_end(part) if index == at else part)
                              for index, (answer, part) in enumerate(cases)], other)

    def test_reasons(self):
        found = 0
        for space, step, _, run in self.drawn_runs(300, 6):
            ended = space.ends(step.tree(), space.everywhere)[run.outcome]
            enough = [row for row in subsets(range(len(run)))
                      if not space.where([run.sights[index] for index in row]) & ~ended]
            firsts = [row for row in enough if not any(set(part) < set(row) for part in enough)]
            self.assertEqual(reasons(step, run), firsts, (step.tree(), run.sights))
            for row in subsets(range(len(run))):
                self.assertIs(is_reason(step, run, row), row in enough)
            found += len(firsts) != 1 or len(firsts[0]) < len(run)
        self.assertGreater(found, 100)

    def test_sights_from_which_all_follow_are_a_reason_whatever_the_step(self):
        for space, step, _, run in self.drawn_runs(150, 5):
            elsewhere = Step(self.alone(run, 0))
            for row in subsets(range(len(run))):
                sights = [run.sights[index] for index in row]
                if all(follows(sights, sight) for sight in run.sights):
                    self.assertIs(is_reason(step, run, row), True)
                else:
                    self.assertIs(is_reason(elsewhere, run, row), False)

    def alone(self, run, at):
        """The tree of the step that ends like the run only where it holds."""
        if at == len(run):
            return ("end", run.outcome)
        look, answer = run.sights[at]
        return ("ask", look, [(answer, self.alone(run, at + 1))], ("end", "none"))


class TestBooks(InSpaces):

    def books(self, count):
        for space, step in self.drawn(count, 6):
            yield space, step, Book([step.run(space.world(self.draw)) for _ in range(self.draw.randint(0, 6))])

    def test_what_all_steps_say(self):
        counts = [0, 0]
        for space, step, book in self.books(200):
            for world in self.draw.sample(space.worlds, 10):
                held = [run for run in book if run.holds(world)]
                self.assertLessEqual(len(held), 1)
                self.assertEqual(book.says(world), held[0].outcome if held else None)
                counts[len(held)] += 1
                if held:
                    self.assertEqual(held[0].outcome, step.run(world).outcome)
                    with self.assertRaises(Known) as caught:
                        two_steps(book, world)
                    self.assertEqual(caught.exception.outcome, held[0].outcome)
                    self.assertEqual(book.way(world), list(held[0].sights))
                else:
                    self.check_two_steps(book, world, step)
        self.assertGreater(min(counts), 300)

    def check_two_steps(self, book, world, step):
        pair = two_steps(book, world)
        way = book.way(world)
        for one in pair:
            for run in book:
                self.assertEqual(one.run(world_of(run.sights)), run)
            self.assertEqual(list(one.run(world).sights), way)
        self.assertNotEqual(pair[0].run(world).outcome, pair[1].run(world).outcome)
        self.assertEqual(list(step.run(world).sights[:len(way)]), way)
        for at in range(1, len(way)):
            self.assertTrue(any(list(run.sights[:at]) == way[:at] and len(run) > at for run in book))
        self.assertFalse(any(list(run.sights[:len(way)]) == way for run in book if way))

    def test_runs_of_two_steps_are_let_be_or_not(self):
        counts = [0, 0]
        for at in range(900):
            space = self.spaces[at % 3]
            runs = [space.step(self.draw, 2, ("good", "bad")).run(space.world(self.draw)) for _ in range(2)]
            try:
                Book(runs)
                one = True
            except NotOne:
                one = False
            self.assertIs(one, self.some_step_has(*runs))
            counts[one] += 1
        self.assertGreater(min(counts), 20)

    def some_step_has(self, one, other):
        """Try the steps that do as the first run does, and beside it as the other does."""
        return Step(self.joined(one, other, 0)).run(world_of(other.sights)) == other

    def joined(self, one, other, at):
        if at == len(one):
            return ("end", one.outcome)
        look, answer = one.sights[at]
        if at < len(other) and other.sights[at][0] == look and other.sights[at] != (look, answer):
            behind = ("end", other.outcome)
            for look_behind, answer_behind in other.sights[:at:-1]:
                behind = ("ask", look_behind, [(answer_behind, behind)], ("end", "so"))
            return ("ask", look, [(answer, self.joined(one, one, at + 1)), (other.sights[at][1], behind)], ("end", "so"))
        return ("ask", look, [(answer, self.joined(one, other, at + 1))], ("end", "so"))


class TestRules(InSpaces):

    RULES = [Rule(row) for row in subsets(SORTS)]

    def test_loose(self):
        for space, _, _, run in self.drawn_runs(60, 6):
            for rule in self.RULES:
                noted = space.where(rule.note(run))
                self.assertEqual(loose(rule, run), [sight for sight in run.sights if noted & ~space.where([sight])])

    def test_wrong(self):
        codes = [[code(world) for world in space.worlds] for space in self.spaces]
        counts = {}
        for at, (space, _, world, run) in enumerate(self.drawn_runs(240, 6)):
            rule = self.RULES[self.draw.randrange(64)] if at % 4 else Rule(["names", "setting", "tool"])
            fault = wrong(rule, run, world)
            astray = space.where(rule.note(run)) & ~space.where(run.sights)
            self.assertEqual(fault is None, astray == 0)
            self.assertEqual(fault is None, loose(rule, run) == [])
            if fault is not None:
                self.check_fault(fault, rule, run, world)
                rows = codes[self.spaces.index(space)]
                here = code(world)
                fewest = min(apart(here, there) for number, there in enumerate(rows) if astray >> number & 1)
                self.assertEqual(len(fault.changes), fewest, (rule.sorts(), run.sights, world.files()))
                counts[fewest] = counts.get(fewest, 0) + 1
        self.assertGreater(counts[1], 20)
        self.assertGreater(counts[2], 5)

    def check_fault(self, fault, rule, run, world):
        self.assertEqual(world.after(fault.changes), fault.behind)
        self.assertEqual(len(changes_between(world, fault.behind)), len(fault.changes))
        self.assertTrue(rule.leaves(run, fault.behind))
        self.assertFalse(run.holds(fault.behind))
        self.assertEqual(fault.step.run(world), run)
        self.assertNotEqual(fault.step.run(fault.behind).outcome, run.outcome)

    def test_one_rule_keeps_all_of_another(self):
        pairs = [(run, there) for space, _, world, run in self.drawn_runs(60, 6)
                 for there in self.draw.sample(space.worlds, 12)]
        pairs += [(Run([sight], "good"), there) for space, _, _, run in self.drawn_runs(20, 6) for sight in run.sights
                  for there in self.draw.sample(space.worlds, 3)]
        left = [sum(1 << at for at, pair in enumerate(pairs) if rule.leaves(*pair)) for rule in self.RULES]
        for one, with_one in zip(self.RULES, left):
            for other, with_other in zip(self.RULES, left):
                self.assertIs(one.keeps(other), with_one & ~with_other == 0, (one.sorts(), other.sorts()))


def code(world):
    """The parts of a world in which changes can differ."""
    parts = {("file", path): text for path, text in world.files().items()}
    parts.update({("set", name): text for name, text in world.settings().items()})
    parts["tool"] = world.tool
    return set(parts.items())


def apart(one, other):
    """The number of parts in which two worlds differ."""
    return len({key for key, _ in one ^ other})


if __name__ == "__main__":
    unittest.main()
