"""The package keeps to the small part of Python that it is written in, as far as a reader of its files can tell."""

import ast
import builtins
import pathlib
import re
import unittest

PACKAGE = pathlib.Path(__file__).resolve().parent.parent / "lampfloor"
FILES = sorted(path for path in PACKAGE.rglob("*") if path.is_file() and "__pycache__" not in path.parts)
TREES = {path: ast.parse(path.read_text(encoding="ascii")) for path in FILES if path.suffix == ".py"}

NODES = """
Module FunctionDef ClassDef Lambda arguments arg Return Assign AugAssign For While If Raise Try ExceptHandler
ImportFrom alias Expr Pass Break Continue BoolOp And Or BinOp Add Sub Mult FloorDiv Mod Pow LShift RShift BitOr BitXor
BitAnd UnaryOp Not USub UAdd Invert IfExp Dict List Tuple Set ListComp comprehension Compare Eq NotEq Lt LtE Gt GtE Is
IsNot In NotIn Call keyword FormattedValue JoinedStr Constant Attribute Subscript Slice Name Load Store
""".split()
PYTHONS_NAMES = """
len range enumerate zip min max sum abs sorted reversed int str bool list tuple dict set frozenset isinstance ord repr
any all divmod Exception ValueError KeyError IndexError LookupError ZeroDivisionError ArithmeticError OverflowError
RuntimeError NotImplementedError AttributeError StopIteration
""".split()
UNUSED_WORDS = """
type typing typing_extensions enum Enum IntEnum StrEnum Flag IntFlag Generic Protocol ABC ABCMeta namedtuple NamedTuple
TypedDict TYPE_CHECKING abstractmethod
""".split()


def walked(kinds):
    for path, tree in TREES.items():
        for node in ast.walk(tree):
            if isinstance(node, kinds):
                yield path, node


def bound_names(node):
    if isinstance(node, (ast.FunctionDef, ast.ClassDef)):
        return [node.name]
    if isinstance(node, ast.arg):
        return [node.arg]
    if isinstance(node, ast.Name) and isinstance(node.ctx, ast.Store):
        return [node.id]
    return []


class Language(unittest.TestCase):
    def test_files(self):
        self.assertIn(PACKAGE / "__init__.py", FILES)
        for path in FILES:
            self.assertRegex(path.name, r"^([a-z][a-z0-9_]*|__init__|__main__)\.py$")

    def test_signs_and_sizes(self):
        for path in FILES:
            text = path.read_text(encoding="ascii")
            self.assertRegex(text, r"\A[ -~\n]*\Z", path)
            rows = text.split("\n")
            self.assertLessEqual(len(rows), 400, path)
            self.assertLessEqual(max(map(len, rows)), 120, path)

    def test_functions_are_short(self):
        for path, node in walked(ast.FunctionDef):
            self.assertLessEqual(node.end_lineno - node.lineno + 1, 40, (path, node.name))

    def test_unused_words(self):
        for path in FILES:
            text = path.read_text(encoding="ascii")
            for word in UNUSED_WORDS:
                self.assertIsNone(re.search(rf"\b{word}\b", text), (path, word))
            self.assertIsNone(re.search("dataclass|overload|contextmanager", text), path)

    def test_statements_and_expressions(self):
        for path, node in walked(ast.AST):
            self.assertIn(node.__class__.__name__, NODES, (path, getattr(node, "lineno", None)))

    def test_one_target_that_is_no_row_of_names(self):
        for path, node in walked(ast.Assign):
            self.assertEqual(len(node.targets), 1, (path, node.lineno))
            self.assertNotIsInstance(node.targets[0], (ast.Tuple, ast.List), (path, node.lineno))

    def test_functions_are_plain(self):
        for path, node in walked((ast.FunctionDef, ast.ClassDef)):
            self.assertEqual(node.decorator_list, [], (path, node.name))
        for path, node in walked(ast.arguments):
            self.assertFalse(node.vararg or node.kwarg or node.kwonlyargs or node.posonlyargs, path)

    def test_constants(self):
        for path, node in walked(ast.Constant):
            self.assertIsInstance(node.value, (int, str, type(None)), (path, node.lineno))

    def test_names(self):
        for path, node in walked(ast.AST):
            for name in bound_names(node):
                self.assertNotIn(name, dir(builtins), path)
                self.assertRegex(name, r"^[A-Za-z][A-Za-z0-9_]*$|^__(init|eq|repr|str|len)__$", path)
        for path, node in walked(ast.Name):
            if node.id in dir(builtins):
                self.assertIn(node.id, PYTHONS_NAMES, (path, node.lineno))

    def test_imports(self):
        drawn = {}
        for path, node in walked(ast.ImportFrom):
            self.assertEqual(node.level, 0, path)
            self.assertRegex(node.module, r"^lampfloor\.[a-z]", path)
            self.assertNotIn("*", [name.name for name in node.names], path)
            drawn.setdefault(path.stem, []).append(node.module.split(".")[1])
        self.assertNotIn("__init__", drawn)

        def draws_from(name, above):
            self.assertNotIn(name, above)
            for below in drawn.get(name, []):
                draws_from(below, above + [name])

        for name in drawn:
            draws_from(name, [])


if __name__ == "__main__":
    unittest.main()
