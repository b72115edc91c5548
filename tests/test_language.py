"""The form of the package's files: those rules of LANGUAGE.md that a walk over the code can see."""

import ast
import pathlib
import re
import unittest

ROOT = pathlib.Path(__file__).resolve().parent.parent
PACKAGE = ROOT / "losspact"
FILES = sorted(PACKAGE.rglob("*.py"))

NODES = """
    Module FunctionDef Lambda ClassDef arguments arg ImportFrom alias
    Assign AugAssign If While For Return Break Continue Pass Raise Try ExceptHandler Expr
    Constant Name Attribute Subscript Slice Call keyword List Tuple Dict Set ListComp comprehension
    BinOp UnaryOp BoolOp Compare IfExp JoinedStr FormattedValue Load Store
    Add Sub Mult FloorDiv Mod Pow BitAnd BitOr BitXor LShift RShift Invert USub UAdd And Or Not
    Eq NotEq Lt LtE Gt GtE In NotIn Is IsNot
""".split()
NAMES_OF_PYTHON = """
    len range enumerate zip min max sum abs sorted reversed int str bool list tuple dict set frozenset isinstance
    ord repr any all divmod Exception ValueError TypeError KeyError IndexError LookupError ZeroDivisionError
    ArithmeticError OverflowError RuntimeError NotImplementedError StopIteration
""".split()
METHODS = """
    append clear copy count endswith extend find get index insert isalnum isalpha isdigit islower isspace isupper
    items join keys ljust lower lstrip partition pop remove replace reverse rfind rjust rpartition rsplit rstrip
    setdefault split splitlines startswith strip update upper values zfill bit_length
""".split()
WORDS = """
    type typing typing_extensions enum Enum IntEnum StrEnum Flag IntFlag Generic Protocol ABC ABCMeta namedtuple
    NamedTuple TypedDict TYPE_CHECKING abstractmethod
""".split()


def tree_of(path):
    return ast.parse(path.read_text(encoding="utf-8"))


def bound_names(tree):
    names = []
    for node in ast.walk(tree):
        if isinstance(node, (ast.FunctionDef, ast.ClassDef)):
            names.append(node.name)
        elif isinstance(node, ast.arg):
            names.append(node.arg)
        elif isinstance(node, ast.Name) and isinstance(node.ctx, ast.Store):
            names.append(node.id)
        elif isinstance(node, ast.alias):
            names.append(node.asname or node.name)
        elif isinstance(node, ast.ExceptHandler) and node.name:
            names.append(node.name)
    return names


class LanguageTest(unittest.TestCase):
    def test_files(self):
        self.assertIn(PACKAGE / "__init__.py", FILES)
        for path in PACKAGE.rglob("*"):
            if path.name != "__pycache__" and path.parent.name != "__pycache__":
                self.assertRegex(path.name, r"^[a-z0-9_]+(\.py)?$")

    def test_size_and_signs(self):
        for path in FILES:
            text = path.read_text(encoding="utf-8")
            self.assertRegex(text, r"\A[ -~\n]*\Z", path)
            self.assertLessEqual(len(text.splitlines()), 400, path)
            self.assertLessEqual(max(len(row) for row in text.splitlines()), 120, path)
            for node in ast.walk(tree_of(path)):
                if isinstance(node, ast.FunctionDef):
                    self.assertLessEqual(node.end_lineno - node.lineno + 1, 40, (path, node.name))

    def test_words(self):
        for path in FILES:
            text = path.read_text(encoding="utf-8")
            self.assertEqual(sorted(set(re.findall(r"\w+", text)) & set(WORDS)), [], path)
            self.assertNotRegex(text, "dataclass|overload|contextmanager")

    def test_imports_are_the_packages_own(self):
        for path in FILES:
            for node in ast.walk(tree_of(path)):
                self.assertNotIsInstance(node, ast.Import, path)
                if isinstance(node, ast.ImportFrom):
                    self.assertEqual(node.level, 0, path)
                    self.assertRegex(node.module, r"^losspact\.[a-z_]+$")
                    self.assertNotIn("*", [name.name for name in node.names])

    def test_only_the_told_forms(self):
        for path in FILES:
            for node in ast.walk(tree_of(path)):
                self.assertIn(node.__class__.__name__, NODES, (path, getattr(node, "lineno", 0)))
                if isinstance(node, ast.Constant):
                    self.assertIn(type(node.value), (int, str, bool, type(None)), (path, node.lineno))
                if isinstance(node, ast.Assign):
                    self.assertEqual(len(node.targets), 1, (path, node.lineno))

    def test_only_the_told_names(self):
        for path in FILES:
            tree = tree_of(path)
            own = set(bound_names(tree))
            self.assertEqual(own & set(NAMES_OF_PYTHON), set(), path)
            for name in own:
                self.assertRegex(name, r"^([A-Za-z][A-Za-z0-9_]*|__(init|eq|repr|str|len)__)$", path)
            for node in ast.walk(tree):
                if isinstance(node, ast.Name):
                    self.assertIn(node.id, own | set(NAMES_OF_PYTHON), (path, node.lineno))

    def test_only_the_told_methods(self):
        own = {node.name for path in FILES for node in ast.walk(tree_of(path)) if isinstance(node, ast.FunctionDef)}
        for path in FILES:
            for node in ast.walk(tree_of(path)):
                if isinstance(node, ast.Call) and isinstance(node.func, ast.Attribute):
                    self.assertIn(node.func.attr, own | set(METHODS), (path, node.lineno))

    def test_values_of_objects(self):
        classes = [node for path in FILES for node in ast.walk(tree_of(path)) if isinstance(node, ast.ClassDef)]
        methods = {node.name for found in classes for node in found.body if isinstance(node, ast.FunctionDef)}
        taken = METHODS + ["add", "args", "encode", "format", "sort"]
        for path in FILES:
            for node in ast.walk(tree_of(path)):
                if isinstance(node, ast.Attribute) and isinstance(node.ctx, ast.Store):
                    self.assertNotIn(node.attr, methods, (path, node.lineno))
                    self.assertNotIn(node.attr, taken, (path, node.lineno))

    def test_no_local_is_called_like_an_import(self):
        for path in FILES:
            tree = tree_of(path)
            drawn = {name.name for node in ast.walk(tree) if isinstance(node, ast.ImportFrom) for name in node.names}
            for node in ast.walk(tree):
                if isinstance(node, ast.arg):
                    self.assertNotIn(node.arg, drawn, (path, node.lineno))
                if isinstance(node, ast.Name) and isinstance(node.ctx, ast.Store):
                    self.assertNotIn(node.id, drawn, (path, node.lineno))


if __name__ == "__main__":
    unittest.main()
