"""The rules of the language subset that can be read off the code directly."""

import ast
import builtins
import re
import unittest
from pathlib import Path

PACKAGE = Path(__file__).resolve().parent.parent / "movingpages"

ALLOWED_BUILTINS = set(
    "len range enumerate zip min max sum abs sorted reversed int str bool bytes list tuple dict set frozenset"
    " isinstance ord repr any all divmod iter next super property staticmethod classmethod"
    " Exception ValueError TypeError KeyError IndexError LookupError ZeroDivisionError ArithmeticError"
    " OverflowError RuntimeError NotImplementedError AttributeError StopIteration NotImplemented".split()
)

BARRED_WORDS = (
    "type typing typing_extensions enum Enum IntEnum StrEnum Flag IntFlag Generic Protocol ABC ABCMeta namedtuple"
    " NamedTuple TypedDict TYPE_CHECKING abstractmethod".split()
)

BARRED_NAMES = "register mro elements open input version_info with_traceback add_note".split()

BARRED_NODES = (
    ast.Global, ast.AsyncFunctionDef, ast.AsyncFor, ast.AsyncWith, ast.Await, ast.Div, ast.MatMult, ast.Import,
)


def bound_names(tree):
    """Return every name that the file gives to something, and every attribute that it uses."""
    names = []
    for node in ast.walk(tree):
        if isinstance(node, (ast.FunctionDef, ast.ClassDef)):
            names.append(node.name)
        elif isinstance(node, ast.arg):
            names.append(node.arg)
        elif isinstance(node, ast.Name) and isinstance(node.ctx, ast.Store):
            names.append(node.id)
        elif isinstance(node, ast.Attribute):
            names.append(node.attr)
    return names


def imported_files(tree):
    """Return the names of the package's modules that the file imports from, without the package's name."""
    return [node.module.split(".")[1] for node in tree.body if isinstance(node, ast.ImportFrom)]


def names_in_functions(tree):
    """Return the parameters and local variables of all functions of the file."""
    names = []
    for node in ast.walk(tree):
        if isinstance(node, ast.FunctionDef):
            names += [inner.arg for inner in ast.walk(node) if isinstance(inner, ast.arg)]
            names += [inner.id for inner in ast.walk(node)
                      if isinstance(inner, ast.Name) and isinstance(inner.ctx, ast.Store)]
    return names


class LanguageTest(unittest.TestCase):
    def setUp(self):
        self.texts = {path.name: path.read_text("utf-8") for path in sorted(PACKAGE.glob("*.py"))}
        self.trees = {name: ast.parse(text) for name, text in self.texts.items()}

    def test_files(self):
        others = [path.name for path in PACKAGE.iterdir() if path.name != "__pycache__"]
        self.assertEqual(sorted(others), sorted(self.texts))
        self.assertIn("__init__.py", self.texts)
        for name in self.texts:
            self.assertRegex(name, r"\A[a-z0-9_]+\.py\Z")

    def test_sizes_and_characters(self):
        for name, text in self.texts.items():
            lines = text.split("\n")
            self.assertLessEqual(len(lines) - 1, 400, name)
            self.assertLessEqual(max(map(len, lines)), 120, name)
            self.assertRegex(text, r"\A[ -~\n]*\Z", name)
            self.assertNotIn("%", text, name)
            for node in ast.walk(self.trees[name]):
                if isinstance(node, ast.FunctionDef):
                    self.assertLessEqual(node.end_lineno - node.lineno + 1, 40, node.name)

    def test_words(self):
        for name, text in self.texts.items():
            self.assertEqual([word for word in re.findall(r"\w+", text) if word in BARRED_WORDS], [], name)
            self.assertNotRegex(text, "dataclass|overload|contextmanager", name)

    def test_names(self):
        for name, tree in self.trees.items():
            for bound in bound_names(tree):
                self.assertNotIn(bound, BARRED_NAMES, name)
                if not bound.endswith("__"):
                    self.assertRegex(bound, r"\A[A-Za-z][A-Za-z0-9_]*\Z", name)

    def test_imports(self):
        for name, tree in self.trees.items():
            for node in ast.walk(tree):
                if isinstance(node, ast.ImportFrom):
                    self.assertEqual(node.level, 0, name)
                    self.assertRegex(node.module, r"\Amovingpages\.[a-z]+\Z", name)
                    self.assertIn(node.module.split(".")[1] + ".py", self.texts, name)

    def test_imports_name_the_file_that_defines_the_name(self):
        for name, tree in self.trees.items():
            for node in tree.body:
                if isinstance(node, ast.ImportFrom):
                    source = self.trees[node.module.split(".")[1] + ".py"]
                    defined = []
                    for inner in source.body:
                        if isinstance(inner, (ast.FunctionDef, ast.ClassDef)):
                            defined.append(inner.name)
                        if isinstance(inner, ast.Assign):
                            defined += [target.id for target in inner.targets]
                    for alias in node.names:
                        self.assertIn(alias.name, defined, name)

    def test_no_two_files_import_from_each_other(self):
        left = {name[:-3]: imported_files(tree) for name, tree in self.trees.items()}
        while left:
            free = [name for name in left if not any(other in left for other in left[name])]
            self.assertNotEqual(free, [], left)
            for name in free:
                del left[name]

    def test_local_names_hide_nothing(self):
        for name, tree in self.trees.items():
            taken = dir(builtins)
            for node in tree.body:
                if isinstance(node, ast.ImportFrom):
                    taken += [alias.name for alias in node.names]
                if isinstance(node, ast.ClassDef):
                    taken.append(node.name)
            self.assertEqual([local for local in names_in_functions(tree) if local in taken], [], name)

    def test_statements_and_builtins(self):
        for name, tree in self.trees.items():
            for node in ast.walk(tree):
                self.assertNotIsInstance(node, BARRED_NODES, name)
                if isinstance(node, ast.Constant):
                    self.assertNotIsInstance(node.value, (float, complex), name)
                if isinstance(node, ast.Name) and hasattr(builtins, node.id):
                    self.assertIn(node.id, ALLOWED_BUILTINS, name)
                    self.assertIsInstance(node.ctx, ast.Load, name)

    def test_module_level(self):
        allowed = (ast.FunctionDef, ast.ClassDef, ast.ImportFrom, ast.Assign, ast.Expr)
        for name, tree in self.trees.items():
            for at, node in enumerate(tree.body):
                self.assertIsInstance(node, allowed, name)
                if isinstance(node, ast.Expr):
                    self.assertEqual(at, 0, name)

    def test_methods_and_attributes_have_different_names(self):
        methods, attributes = [], []
        for tree in self.trees.values():
            for node in ast.walk(tree):
                if isinstance(node, ast.ClassDef):
                    methods += [inner.name for inner in node.body if isinstance(inner, ast.FunctionDef)]
                if isinstance(node, ast.Attribute) and isinstance(node.ctx, ast.Store):
                    attributes.append(node.attr)
        self.assertIn("insert", methods)
        self.assertIn("rows", attributes)
        self.assertEqual(set(methods) & set(attributes), set())

    def test_methods_are_called_by_position_and_not_passed_on(self):
        for name, tree in self.trees.items():
            called = [node.func for node in ast.walk(tree) if isinstance(node, ast.Call)]
            for node in ast.walk(tree):
                if isinstance(node, ast.Call) and isinstance(node.func, ast.Attribute):
                    self.assertEqual(node.keywords, [], name)
                    self.assertNotEqual(node.func.attr, "sort", name)
                if isinstance(node, ast.Attribute) and node.attr in ("insert", "remove", "copy", "append", "split"):
                    self.assertIn(node, called, name)

    def test_any_and_all_take_a_list(self):
        # Feed has __eq__, and then generator expressions are barred here.
        takers = ("any", "all", "sum", "min", "max", "sorted")
        for name, tree in self.trees.items():
            for node in ast.walk(tree):
                if isinstance(node, ast.Call) and getattr(node.func, "id", "") in takers:
                    for argument in node.args:
                        self.assertNotIsInstance(argument, ast.GeneratorExp, name)
