"""The interface: names of files, functions, methods and parameters."""

import importlib
import inspect
import unittest

from trueagain.worlds import World, changes_between
from trueagain.sights import apart, bars, follows, is_sight, least, sure, world_of

FUNCTIONS = {
    "worlds": {"changes_between": ["one", "other"]},
    "sights": {"is_sight": ["thing"], "bars": ["one", "other"], "apart": ["sights"], "world_of": ["sights"],
               "follows": ["sights", "sight"], "least": ["sights"], "sure": ["sights", "look"]},
}
METHODS = {("worlds", "World"): {
    "__init__": ["self", "files", "settings", "tool"], "files": ["self"], "settings": ["self"],
    "answer": ["self", "look"], "after": ["self", "changes"], "__len__": ["self"],
    "__contains__": None, "__eq__": None}}


class TestInterface(unittest.TestCase):

    def test_functions(self):
        for file, functions in FUNCTIONS.items():
            module = importlib.import_module("trueagain." + file)
            for word, names in functions.items():
                function = getattr(module, word)
                self.assertEqual(list(inspect.signature(function).parameters), names)
                self.assertEqual(function.__module__, module.__name__)

    def test_methods_stand_in_the_class_itself(self):
        for (file, word), methods in METHODS.items():
            found = getattr(importlib.import_module("trueagain." + file), word)
            self.assertEqual(found.__module__, "trueagain." + file)
            for method, names in methods.items():
                self.assertIn(method, vars(found))
                if names is not None:
                    self.assertEqual(list(inspect.signature(vars(found)[method]).parameters), names)

    def test_by_name(self):
        world = World(files={"a": "x"}, settings={"s": "t"}, tool="1")
        self.assertEqual(world.answer(look=("read", "a")), "x")
        behind = world.after(changes=[("drop", "a")])
        self.assertEqual(changes_between(one=world, other=behind), [("drop", "a")])
        sight = (("read", "a"), "x")
        self.assertIs(is_sight(thing=sight), True)
        self.assertIs(bars(one=sight, other=sight), False)
        self.assertIsNone(apart(sights=[sight]))
        self.assertEqual(world_of(sights=[sight]).files(), {"a": "x"})
        self.assertIs(follows(sights=[sight], sight=sight), True)
        self.assertEqual(least(sights=[sight]), [sight])
        self.assertEqual(sure(sights=[sight], look=("read", "a")), ("x",))

    def test_defaults(self):
        world = World({})
        self.assertEqual((world.settings(), world.tool), ({}, ""))


if __name__ == "__main__":
    unittest.main()
