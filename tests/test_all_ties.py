"""Points 20 to 23 against many worlds: what ties hold and miss is so in all worlds with the same key, and behind all single changes."""

import random
import unittest

from drawn import chain_space, mixed_space, tree_space
from test_all_steps import apart, code
from told import all_paths, drawn_pattern, drawn_patterns, is_told
from trueagain.steps import Run
from trueagain.ties import Ties
from trueagain.worlds import World, changes_between

SOME = (["a/**"], ["*", "b/**"], ["**"], ["a/*", "*"], ["*/*", "*/*/*/**"], ["a/*/**", "b/*", "*"], ["**/a"], ["**/b/**", "*"], [],
        ["*/*/**"], ["a", "b", "c"], ["a/a/**", "b"], ["a/*", "a/*/*", "a/*/*/**", "b"])


class Told:
    """Ties, and what they tie found out without the package."""

    def __init__(self, patterns, settings=(), with_tool=False):
        self.patterns, self.settings, self.with_tool = patterns, settings, with_tool
        self.ties = Ties(patterns, settings, with_tool)

    def ties_path(self, path):
        return any(is_told(pattern, path) for pattern in self.patterns)

    def key(self, world):
        return ([(path, text) for path, text in world.files().items() if self.ties_path(path)],
                [world.answer(("setting", name)) for name in sorted(set(self.settings))], world.tool if self.with_tool else None)

    def like(self, space, world):
        """The worlds of a space with the same key."""
        looks = [("read", path) for path in space.paths if self.ties_path(path)]
        looks += [("setting", name) for name in self.settings] + [("tool",)] * self.with_tool
        return space.where([(look, world.answer(look)) for look in looks])


class TestInSpaces(unittest.TestCase):

    @classmethod
    def setUpClass(cls):
        cls.spaces = [tree_space(), mixed_space(), chain_space()]
        for space in cls.spaces:
            space.paths = sorted({path for world in space.worlds for path in world.files()})
            space.codes = [code(world) for world in space.worlds]

    def setUp(self):
        self.draw = random.Random(self.id())

    def drawn(self, count):
        """So many spaces with ties, a world and a run there each."""
        for at in range(count):
            space = self.spaces[at % 3]
            patterns = self.draw.choice(SOME) if at % 2 else drawn_patterns(self.draw, "ab", 3)
            told = Told(patterns, self.draw.sample("sst", self.draw.randint(0, 3)), self.draw.random() < 0.5)
            world = space.world(self.draw)
            looks = self.draw.sample(list(space.answers), self.draw.randint(1, 6))
            yield space, told, world, Run([(look, world.answer(look)) for look in looks], "good")

    def test_keys(self):
        for space, told, world, _ in self.drawn(300):
            files, settings, tool = told.ties.key(world)
            self.assertEqual((list(files), [text for _, text in settings], tool), told.key(world))
            for other in self.draw.sample(space.worlds, 5) + [world]:
                self.assertIs(told.ties.leaves(world, other), told.key(world) == told.key(other))

    def test_holds_in_all_worlds_with_the_same_key(self):
        counts = [0, 0]
        for space, told, world, run in self.drawn(450):
            like = told.like(space, world)
            for sight in run.sights:
                held = told.ties.holds(world, sight)
                elsewhere = like & ~space.where([sight])
                self.assertFalse(held and elsewhere, (told.patterns, world.files(), sight))
                if not held:
                    self.check_untrue_elsewhere(told, world, sight)
                counts[held] += 1
            self.assertEqual(told.ties.loose(run, world), [sight for sight in run.sights if not told.ties.holds(world, sight)])
        self.assertGreater(min(counts), 400)

    def check_untrue_elsewhere(self, told, world, sight):
        behind = told.ties.wrong(Run([sight], ""), world).behind
        self.assertEqual(told.key(behind), told.key(world))
        self.assertNotEqual(behind.answer(sight[0]), sight[1])

    def test_as_few_changes_as_any(self):
        counts = {}
        for space, told, world, run in self.drawn(300):
            fault = told.ties.wrong(run, world)
            self.assertEqual(fault is None, told.ties.loose(run, world) == [])
            elsewhere = told.like(space, world) & ~space.where(run.sights)
            if fault is None:
                self.assertEqual(elsewhere, 0)
                continue
            self.check_fault(told, fault, run, world)
            self.assertLessEqual(len(fault.changes), self.fewest(space, world, elsewhere), (told.patterns, run.sights, world.files()))
            counts[len(fault.changes)] = counts.get(len(fault.changes), 0) + 1
        self.assertGreater(counts[1], 100)

    def fewest(self, space, world, bits):
        """With how many changes one of these worlds can be come to; some worlds that are nearer are not in the space."""
        here = code(world)
        return min((apart(here, there) for number, there in enumerate(space.codes) if bits >> number & 1), default=99)

    def test_as_few_changes_as_any_of_lacking_files(self):
        more = 0
        for at in range(150):
            space = self.spaces[at % 3]
            world = space.world(self.draw)
            lacking = [("read", path) for path in ("a", "b", "a/a", "a/b") if world.answer(("read", path)) is None]
            run = Run([(look, None) for look in self.draw.sample(lacking, min(2, len(lacking)))], "good")
            told = Told(drawn_patterns(self.draw, "ab", 2, 1))
            fault = told.ties.wrong(run, world)
            if fault is not None:
                self.check_fault(told, fault, run, world)
                elsewhere = told.like(space, world) & ~space.where(run.sights)
                fewest = self.fewest(space, world, elsewhere)
                self.assertLessEqual(len(fault.changes), fewest, (told.patterns, run.sights, world.files()))
                more += len(fault.changes) == fewest > 1
        self.assertGreater(more, 20)

    def check_fault(self, told, fault, run, world):
        self.assertEqual(world.after(fault.changes), fault.behind)
        self.assertEqual(len(changes_between(world, fault.behind)), len(fault.changes))
        self.assertEqual(told.key(fault.behind), told.key(world))
        self.assertFalse(run.holds(fault.behind))
        self.assertEqual(fault.step.run(world), run)
        self.assertNotEqual(fault.step.run(fault.behind).outcome, run.outcome)

    def test_needless(self):
        counts = {}
        for space, told, world, run in self.drawn(240):
            looks = [look for look, _ in run.sights]
            # Most that is needless at once is looked at by the run, so that it comes to new files.
            more = [("read", path) for path in world.files()] + [("setting", name) for name in "st"] + [("tool",)]
            looks += [look for look in more if look not in looks and self.draw.random() < 0.95]
            run = Run([(look, world.answer(look)) for look in looks], "good")
            change = self.check_needless(told, run, world, "abc", 3)
            counts[change and change[0]] = counts.get(change and change[0], 0) + 1
        self.assertGreater(counts[None], 60)
        self.assertGreater(counts["put"], 60)

    def check_needless(self, told, run, world, names, count):
        change = told.ties.needless(run, world)
        if change is not None:
            self.assertTrue(is_needless(told, run, world, change), (told.patterns, run.sights, world.files(), change))
            return change
        for single in single_changes(world, names, count):
            self.assertFalse(is_needless(told, run, world, single), (told.patterns, run.sights, world.files(), single))
        return None

    def test_needless_of_runs_that_saw_the_names_of_folders(self):
        counts = [0, 0]
        for at in range(240):
            files = {path: "x" for path in self.draw.sample(all_paths("ab", 3), self.draw.randint(0, 4))}
            files = {path: "x" for path in files if not any(path.startswith(other + "/") for other in files)}
            world = World(files)
            places = [""] + [path for path in all_paths("ab", 3) if self.draw.random() < 0.35 or world.answer(("list", path))]
            looks = [("list", place) for place in places if self.draw.random() < 0.85] + [("read", path) for path in files]
            run = Run([(look, world.answer(look)) for look in looks], "good")
            told = Told([drawn_pattern(self.draw, "ab", 4) for _ in range(self.draw.randint(1, 2))])
            counts[self.check_needless(told, run, world, "abz", 4) is None] += 1
        self.assertGreater(min(counts), 50)


def is_needless(told, run, world, change):
    """Tell whether a change is needless; one that cannot be done is none."""
    if change[0] == "put":
        parts = change[1].split("/")
        if any("/".join(parts[:at]) in world for at in range(1, len(parts))) or world.answer(("list", change[1])) is not None:
            return False
    behind = world.after([change])
    return told.key(behind) != told.key(world) and run.holds(behind)


def single_changes(world, names, count):
    """All single changes, with puts of up to so many of these names."""
    for path in all_paths(names, count):
        yield from [("put", path, "x"), ("put", path, "new")]
    yield from [("drop", path) for path in world.files()]
    yield from [("set", name, text) for name in "stq" for text in ("x", "new", None)]
    yield from [("tool", "x"), ("tool", "new")]


if __name__ == "__main__":
    unittest.main()
