"""The errors: their attributes and their bases."""

import unittest

from trueagain import errors

ARGUMENTS = {
    "BadPath": ["path"], "Blocked": ["path"], "BadName": ["name"], "BadLook": ["look"],
    "BadChange": ["index"], "BadSight": ["index"], "Apart": ["first", "second"], "BadStep": ["place"],
    "NoRun": [], "BadIndex": ["thing"], "NotOne": ["first", "second"], "Known": ["outcome"],
    "BadSort": ["thing"], "NotTrue": ["index"], "BadPattern": ["thing"], "BadCount": ["n"], "NoRule": [],
    "NoBranch": ["name"], "TakenBranch": ["name"], "NothingToUndo": [], "BadLine": ["index"],
}


class TestErrors(unittest.TestCase):

    def test_bases(self):
        self.assertEqual(errors.AgainError.__bases__, (ValueError,))
        for word in ARGUMENTS:
            self.assertEqual(getattr(errors, word).__bases__, (errors.AgainError,), word)

    def test_no_further_ones(self):
        found = {word for word, thing in vars(errors).items() if isinstance(thing, type)}
        self.assertEqual(found, set(ARGUMENTS) | {"AgainError"})

    def test_attributes(self):
        for word, names in ARGUMENTS.items():
            values = [object() for _ in names]
            by_place = getattr(errors, word)(*values)
            by_name = getattr(errors, word)(**dict(zip(names, values)))
            for name, value in zip(names, values):
                self.assertIs(getattr(by_place, name), value, word)
                self.assertIs(getattr(by_name, name), value, word)

    def test_caught_as_again_error_and_value_error(self):
        for word, names in ARGUMENTS.items():
            for base in (errors.AgainError, ValueError):
                with self.assertRaises(base):
                    raise getattr(errors, word)(*names)
                self.assertIsInstance(str(getattr(errors, word)(*names)), str)

    def test_none_lacks_its_arguments(self):
        for word, names in ARGUMENTS.items():
            if names:
                with self.assertRaises(TypeError):
                    getattr(errors, word)()


if __name__ == "__main__":
    unittest.main()
