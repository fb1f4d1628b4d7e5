"""The package keeps to the small part of Python that it is written in, as far as a reader of its files can tell."""

import ast
import builtins
import pathlib
import re
import unittest

PACKAGE = pathlib.Path(__file__).resolve().parent.parent / "lampfloor"
FILES = sorted(path for path in PACKAGE.rglob("*") if path.is_file() and "__pycache__" not in path.parts)
TREES = {path: ast.parse(path.read_text(encoding="ascii")) for path in FILES if path.suffix == ".py"}

NODES = """
Module FunctionDef ClassDef Lambda arguments arg Return Assign AugAssign For While If Raise Try ExceptHandler
ImportFrom alias Expr Pass Break Continue BoolOp And Or BinOp Add Sub Mult FloorDiv Mod Pow LShift RShift BitOr BitXor
BitAnd UnaryOp Not USub UAdd Invert IfExp Dict List Tuple Set ListComp comprehension Compare Eq NotEq Lt LtE Gt GtE Is
IsNot In NotIn Call keyword FormattedValue JoinedStr Constant Attribute Subscript Slice Name Load Store
""".split()
PYTHONS_NAMES = """
len range enumerate zip min max sum abs sorted reversed int str bool list tuple dict set frozenset isinstance ord repr
any all divmod Exception ValueError KeyError IndexError LookupError ZeroDivisionError ArithmeticError OverflowError
RuntimeError NotImplementedError AttributeError StopIteration
""".split()
UNUSED_WORDS = """
type typing typing_extensions enum Enum IntEnum StrEnum Flag IntFlag Generic Protocol ABC ABCMeta namedtuple NamedTuple
TypedDict TYPE_CHECKING abstractmethod
""".split()
PYTHONS_METHODS = """
append clear copy count endswith extend find get index insert isalnum isalpha isdigit islower isspace isupper items join
keys ljust lower lstrip partition pop remove replace reverse rfind rjust rpartition rsplit rstrip setdefault split
splitlines startswith strip update upper values zfill bit_length
""".split()
UNUSED_NAMES = """
register mro elements open input version_info with_traceback add_note attrgetter breakpoint builtins compile copyright
credits delattr dir eval exec exit gc getattr globals hasattr help id importlib license locals methodcaller os quit
setattr super type vars sys format format_map
""".split()
PYTHONS_ATTRIBUTES = sorted({name for kind in (str, int, list, dict, set, bytes, tuple) for name in dir(kind)})
WALKED_AT_ONCE = "zip enumerate reversed range items keys values".split()
WALKERS = "list tuple dict sorted sum any all enumerate zip min max join".split()
SETS_STAND_IN = "sorted len".split()


def called(node):
    """The name under which something is called, be it a function or a method."""
    if not isinstance(node, ast.Call):
        return None
    return node.func.id if isinstance(node.func, ast.Name) else getattr(node.func, "attr", None)


def with_parents(tree):
    for parent in ast.walk(tree):
        for node in ast.iter_child_nodes(parent):
            yield node, parent


def own_methods():
    return [node.name for _, top in walked(ast.ClassDef) for node in top.body if isinstance(node, ast.FunctionDef)]


def stored_values():
    return [node.attr for _, node in walked(ast.Attribute) if isinstance(node.ctx, ast.Store)]


def walked(kinds):
    for path, tree in TREES.items():
        for node in ast.walk(tree):
            if isinstance(node, kinds):
                yield path, node


def bound_names(node):
    if isinstance(node, (ast.FunctionDef, ast.ClassDef)):
        return [node.name]
    if isinstance(node, ast.arg):
        return [node.arg]
    if isinstance(node, ast.Name) and isinstance(node.ctx, ast.Store):
        return [node.id]
    return []


class Language(unittest.TestCase):
    def test_files(self):
        self.assertIn(PACKAGE / "__init__.py", FILES)
        for path in FILES:
            self.assertRegex(path.name, r"^([a-z][a-z0-9_]*|__init__|__main__)\.py$")

    def test_signs_and_sizes(self):
        for path in FILES:
            text = path.read_text(encoding="ascii")
            self.assertRegex(text, r"\A[ -~\n]*\Z", path)
            rows = text.split("\n")
            self.assertLessEqual(len(rows), 400, path)
            self.assertLessEqual(max(map(len, rows)), 120, path)

    def test_functions_are_short(self):
        for path, node in walked(ast.FunctionDef):
            self.assertLessEqual(node.end_lineno - node.lineno + 1, 40, (path, node.name))

    def test_unused_words(self):
        for path in FILES:
            text = path.read_text(encoding="ascii")
            for word in UNUSED_WORDS:
                self.assertIsNone(re.search(rf"\b{word}\b", text), (path, word))
            self.assertIsNone(re.search("dataclass|overload|contextmanager", text), path)

    def test_statements_and_expressions(self):
        for path, node in walked(ast.AST):
            self.assertIn(node.__class__.__name__, NODES, (path, getattr(node, "lineno", None)))

    def test_one_target_that_is_no_row_of_names(self):
        for path, node in walked(ast.Assign):
            self.assertEqual(len(node.targets), 1, (path, node.lineno))
            self.assertNotIsInstance(node.targets[0], (ast.Tuple, ast.List), (path, node.lineno))

    def test_functions_are_plain(self):
        for path, node in walked((ast.FunctionDef, ast.ClassDef)):
            self.assertEqual(node.decorator_list, [], (path, node.name))
        for path, node in walked(ast.arguments):
            self.assertFalse(node.vararg or node.kwarg or node.kwonlyargs or node.posonlyargs, path)

    def test_constants(self):
        for path, node in walked(ast.Constant):
            self.assertIsInstance(node.value, (int, str, type(None)), (path, node.lineno))

    def test_names(self):
        for path, node in walked(ast.AST):
            for name in bound_names(node):
                self.assertNotIn(name, dir(builtins), path)
                self.assertRegex(name, r"^[A-Za-z][A-Za-z0-9_]*$|^__(init|eq|repr|str|len)__$", path)
        for path, node in walked(ast.Name):
            if node.id in dir(builtins):
                self.assertIn(node.id, PYTHONS_NAMES, (path, node.lineno))

    def test_no_name_is_called_like_an_import_or_a_class_of_its_file(self):
        for path, tree in TREES.items():
            drawn = [node for node in tree.body if isinstance(node, ast.ImportFrom)]
            tops = [name.asname or name.name for node in drawn for name in node.names]
            tops += [node.name for node in tree.body if isinstance(node, (ast.ClassDef, ast.FunctionDef))]
            self.assertEqual(len(tops), len(set(tops)), path)
            for node in ast.walk(tree):
                if not isinstance(node, (ast.ClassDef, ast.FunctionDef)):
                    for name in bound_names(node):
                        self.assertNotIn(name, tops, path)

    def test_names_that_are_not_used(self):
        for path, node in walked(ast.AST):
            for name in bound_names(node) + [getattr(node, "attr", None), getattr(node, "id", None)]:
                self.assertNotIn(name, UNUSED_NAMES, (path, getattr(node, "lineno", None)))

    def test_methods_and_values(self):
        self.assertEqual([name for name in own_methods() if name in stored_values()], [])
        self.assertEqual([name for name in stored_values() if name in PYTHONS_ATTRIBUTES], [])
        for path, node in walked(ast.Call):
            if isinstance(node.func, ast.Attribute):
                self.assertIn(node.func.attr, PYTHONS_METHODS + own_methods(), (path, node.lineno))

    def test_walked_at_once(self):
        for path, tree in TREES.items():
            for node, parent in with_parents(tree):
                if called(node) in WALKED_AT_ONCE:
                    looped = isinstance(parent, (ast.For, ast.comprehension)) and parent.iter is node
                    self.assertTrue(looped or called(parent) in WALKERS, (path, node.lineno))

    def test_sets_are_not_kept(self):
        for path, tree in TREES.items():
            above = dict(with_parents(tree))
            for node in above:
                if called(node) == "set":
                    parent = above[node]
                    while isinstance(parent, ast.BinOp):
                        parent = above[parent]
                    fine = isinstance(parent, ast.Compare) or called(parent) in SETS_STAND_IN
                    self.assertTrue(fine, (path, node.lineno))

    def test_is_stands_beside_none_true_and_false(self):
        for path, node in walked(ast.Compare):
            if isinstance(node.ops[0], (ast.Is, ast.IsNot)):
                self.assertIn(ast.unparse(node.comparators[0]), ("None", "True", "False"), (path, node.lineno))

    def test_no_annotations(self):
        for path, node in walked((ast.FunctionDef, ast.arg)):
            told = node.returns if isinstance(node, ast.FunctionDef) else node.annotation
            self.assertIsNone(told, (path, node.lineno))

    def test_imports(self):
        drawn = {}
        for path, node in walked(ast.ImportFrom):
            self.assertEqual(node.level, 0, path)
            self.assertRegex(node.module, r"^lampfloor\.[a-z]", path)
            self.assertNotIn("*", [name.name for name in node.names], path)
            drawn.setdefault(path.stem, []).append(node.module.split(".")[1])
        self.assertNotIn("__init__", drawn)

        def draws_from(name, above):
            self.assertNotIn(name, above)
            for below in drawn.get(name, []):
                draws_from(below, above + [name])

        for name in drawn:
            draws_from(name, [])


if __name__ == "__main__":
    unittest.main()
