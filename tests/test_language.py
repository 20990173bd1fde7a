"""Those rules of ../shared/LANGUAGE.md that a walk through the code can see."""

import ast
import builtins
import re
import unittest
from pathlib import Path

PACKAGE = Path(__file__).resolve().parent.parent / "trueagain"
BUILTINS = """len range enumerate zip min max sum abs sorted reversed int str bool list tuple dict set isinstance ord
repr any all divmod iter next ValueError KeyError IndexError LookupError ZeroDivisionError TypeError
NotImplemented""".split()
METHODS = """append clear copy count endswith extend find get index insert isalnum isalpha isdigit islower isspace isupper
items join keys ljust lower lstrip partition pop remove replace reverse rfind rjust rpartition rsplit rstrip setdefault
split splitlines startswith strip update upper values zfill bit_length removeprefix removesuffix rindex""".split()
SPECIAL = """__init__ __eq__ __repr__ __str__ __len__ __iter__ __contains__ __or__ __and__ __invert__""".split()
WORDS = """type typing typing_extensions enum Enum IntEnum StrEnum Flag IntFlag Generic Protocol ABC ABCMeta namedtuple
NamedTuple TypedDict TYPE_CHECKING abstractmethod""".split()
UNUSED = """register mro elements open input law version_info with_traceback add_note breakpoint builtins compile
copyright credits delattr dir eval exec exit gc getattr globals hasattr help id importlib license locals methodcaller os
quit setattr super vars sys""".split()
NODES = (ast.Global, ast.AsyncFunctionDef, ast.Await, ast.GeneratorExp, ast.Import, ast.AnnAssign, ast.Div, ast.Starred)


class TestLanguage(unittest.TestCase):

    def setUp(self):
        self.texts = {path.stem: path.read_text("utf-8") for path in sorted(PACKAGE.glob("*.py"))}
        self.trees = {name: ast.parse(text) for name, text in self.texts.items()}
        self.nodes = [(name, node) for name, tree in self.trees.items() for node in ast.walk(tree)]

    def of(self, *kinds):
        return [(name, node) for name, node in self.nodes if isinstance(node, kinds)]

    def bound(self):
        """All names that the code gives to something, without those of attributes."""
        found = [(name, node.name) for name, node in self.of(ast.FunctionDef, ast.ClassDef)]
        found += [(name, node.arg) for name, node in self.of(ast.arg, ast.keyword)]
        found += [(name, node.id) for name, node in self.of(ast.Name) if isinstance(node.ctx, ast.Store)]
        return found

    def test_files(self):
        """L1, L14"""
        found = [path.name for path in PACKAGE.iterdir() if path.name != "__pycache__"]
        self.assertEqual(sorted(found), sorted(name + ".py" for name in self.texts))
        self.assertIn("__init__", self.texts)
        for name, text in self.texts.items():
            self.assertRegex(name, r"\A([a-z][a-z0-9_]*|__init__)\Z")
            self.assertEqual(re.sub(r"[ -~\n]", "", text), "", name)

    def test_imports(self):
        """L2, L16"""
        needed = {name: set() for name in self.trees}
        for name, node in self.of(ast.ImportFrom):
            self.assertIn(node, self.trees[name].body)
            package, _, file = node.module.partition(".")
            self.assertEqual((package, node.level), ("trueagain", 0))
            defined = [row.name for row in self.trees[file].body if isinstance(row, (ast.FunctionDef, ast.ClassDef))]
            defined += [row.targets[0].id for row in self.trees[file].body if isinstance(row, ast.Assign)]
            for alias in node.names:
                self.assertIn(alias.name, defined)
                self.assertIsNone(alias.asname)
            needed[name].add(file)
        while needed:
            free = [name for name, files in needed.items() if not files]
            self.assertNotEqual(free, [], f"these import from each other: {needed}")
            needed = {name: files - set(free) for name, files in needed.items() if name not in free}

    def test_module_level(self):
        """L3"""
        for name, tree in self.trees.items():
            self.assertIsInstance(ast.get_docstring(tree), str)
            for row in tree.body[1:]:
                self.assertIsInstance(row, (ast.ImportFrom, ast.FunctionDef, ast.ClassDef, ast.Assign), name)
                if isinstance(row, ast.Assign):
                    ast.literal_eval(row.value)

    def test_kinds_of_code(self):
        """L4 to L7, L21"""
        self.assertEqual([(name, node.lineno) for name, node in self.of(*NODES)], [])
        self.assertEqual([node.name for _, node in self.of(ast.FunctionDef) if node.decorator_list or node.returns], [])
        special = [node.name for _, node in self.of(ast.FunctionDef) if node.name.startswith("__")]
        self.assertEqual([name for name in special if name not in SPECIAL], [])

    def test_builtins(self):
        """L8, L15"""
        for name, node in self.of(ast.Name):
            if isinstance(node.ctx, ast.Load) and hasattr(builtins, node.id):
                self.assertIn(node.id, BUILTINS, (name, node.lineno))
        for name, word in self.bound():
            self.assertFalse(hasattr(builtins, word) and word not in SPECIAL, (name, word))

    def test_sizes(self):
        """L10"""
        for name, text in self.texts.items():
            lines = text.splitlines()
            self.assertLessEqual(len(lines), 399, name)
            self.assertLessEqual(max(len(line) for line in lines), 120, name)
        for name, node in self.of(ast.FunctionDef):
            self.assertLessEqual(node.end_lineno - node.lineno + 1, 40, (name, node.name))

    def test_names(self):
        """L12, L15, L17"""
        for name, word in self.bound():
            self.assertFalse(word in UNUSED or (word.startswith("_") and word not in SPECIAL), (name, word))
        for name, tree in self.trees.items():
            taken = [alias.name for row in tree.body if isinstance(row, ast.ImportFrom) for alias in row.names]
            taken += [row.name for row in tree.body if isinstance(row, ast.ClassDef)]
            top = taken + [row.name for row in tree.body if isinstance(row, ast.FunctionDef)]
            self.assertEqual(len(top), len(set(top)), name)
            inner = [node.arg for node in ast.walk(tree) if isinstance(node, ast.arg)]
            inner += [node.id for node in ast.walk(tree) if isinstance(node, ast.Name) and isinstance(node.ctx, ast.Store)]
            self.assertEqual(set(taken) & set(inner), set(), name)

    def test_words(self):
        """L17"""
        for name, text in self.texts.items():
            self.assertEqual([word for word in re.findall(r"\w+", text) if word in WORDS], [], name)
            self.assertNotRegex(text, "dataclass|overload|contextmanager")

    def test_methods_and_attributes(self):
        """L18, L25, L26"""
        methods = {row.name for _, node in self.of(ast.ClassDef) for row in node.body if isinstance(row, ast.FunctionDef)}
        attributes = {node.attr for _, node in self.of(ast.Attribute) if isinstance(node.ctx, ast.Store)}
        self.assertEqual(methods & attributes, set())
        called = {node.func for _, node in self.of(ast.Call) if isinstance(node.func, ast.Attribute)}
        for name, node in self.of(ast.Attribute):
            known = methods | set(METHODS) if node in called else attributes
            self.assertIn(node.attr, known, (name, node.lineno))

    def test_is(self):
        """L20"""
        for name, node in self.of(ast.Compare):
            for sign, other in zip(node.ops, node.comparators):
                if isinstance(sign, (ast.Is, ast.IsNot)):
                    self.assertIsInstance(other, ast.Constant, (name, node.lineno))

    def test_strings(self):
        """L27"""
        for name, node in self.of(ast.Constant):
            if isinstance(node.value, str):
                self.assertNotIn("%", node.value, (name, node.lineno))
                self.assertNotRegex(node.value, r"\._+\Z")


if __name__ == "__main__":
    unittest.main()
