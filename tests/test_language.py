"""Looks at the package's own files for what LANGUAGE.md leaves out, as far as a plain look can see it."""

import ast
import builtins
import pathlib
import re
import unittest

PACKAGE = pathlib.Path(__file__).resolve().parent.parent / "poolrules"

# L6, L7: the forms of the language that may stand in a file.
FORMS = set("""
Module Expr ImportFrom alias FunctionDef Lambda ClassDef arguments arg Assign AugAssign If While For Return Break
Continue Pass Raise Try ExceptHandler BoolOp And Or UnaryOp Not USub UAdd Invert BinOp Add Sub Mult FloorDiv Mod Pow
BitAnd BitOr BitXor LShift RShift Compare Eq NotEq Lt LtE Gt GtE Is IsNot In NotIn IfExp Call keyword Attribute
Subscript Slice ListComp comprehension JoinedStr FormattedValue Constant Name Load Store List Tuple Dict Set
""".split())

# L8: Python's own names.
OWN = set("""
len range enumerate zip min max sum abs sorted reversed int str bool list tuple dict set frozenset isinstance ord
repr any all divmod Exception ValueError TypeError KeyError IndexError LookupError ZeroDivisionError ArithmeticError
OverflowError RuntimeError NotImplementedError AttributeError StopIteration
""".split())

# L25: methods of Python's own values.
METHODS = set("""
append clear copy count endswith extend find get index insert isalnum isalpha isdigit islower isspace isupper items
join keys ljust lower lstrip partition pop remove replace reverse rfind rjust rpartition rsplit rstrip setdefault
split splitlines startswith strip update upper values zfill bit_length
""".split())

SPECIAL = {"__init__", "__eq__", "__repr__", "__str__", "__len__"}

# L17: words that stand nowhere, and names that are not used.
WORDS = re.compile(
    r"\b(type|typing|typing_extensions|enum|Enum|IntEnum|StrEnum|Flag|IntFlag|Generic|Protocol|ABC|ABCMeta|"
    r"namedtuple|NamedTuple|TypedDict|TYPE_CHECKING|abstractmethod)\b|dataclass|overload|contextmanager")
UNUSED = {"register", "mro", "elements", "open", "input", "version_info", "with_traceback", "add_note", "sys", "os"}


def files():
    return sorted(PACKAGE.glob("*.py"))


def trees():
    return [(path.name, ast.parse(path.read_text())) for path in files()]


def walked(kinds):
    return [(name, node) for name, tree in trees() for node in ast.walk(tree) if isinstance(node, kinds)]


class FilesTest(unittest.TestCase):
    def test_only_plain_files_lie_in_the_package(self):
        for path in PACKAGE.iterdir():
            if path.name != "__pycache__":
                self.assertRegex(path.name, r"^([a-z][a-z0-9_]*|__init__|__main__)\.py$")

    def test_signs_words_and_sizes(self):
        for path in files():
            text = path.read_bytes().decode("ascii")
            lines = text.split("\n")
            with self.subTest(path.name):
                self.assertRegex(text, r"\A[ -~\n]*\Z")
                self.assertIsNone(WORDS.search(text))
                self.assertLessEqual(len(lines), 400)
                self.assertLessEqual(max(len(line) for line in lines), 120)

    def test_functions_are_small(self):
        for name, node in walked(ast.FunctionDef):
            with self.subTest((name, node.name)):
                self.assertLessEqual(node.end_lineno - node.lineno + 1, 40)


class FormsTest(unittest.TestCase):
    def test_forms(self):
        for name, node in walked(ast.AST):
            with self.subTest((name, getattr(node, "lineno", 0))):
                self.assertIn(type(node).__name__, FORMS)

    def test_the_top_of_a_file(self):
        for name, tree in trees():
            self.assertIsNotNone(ast.get_docstring(tree), name)
            for node in tree.body[1:]:
                with self.subTest((name, node.lineno)):
                    self.assertIsInstance(node, (ast.ImportFrom, ast.FunctionDef, ast.ClassDef, ast.Assign))

    def test_imports_come_from_the_file_that_defines_the_name(self):
        defined = {
            "poolrules." + path.stem: [getattr(node, "name", "") for node in ast.parse(path.read_text()).body]
            for path in files()
        }
        for name, node in walked(ast.ImportFrom):
            for alias in node.names:
                with self.subTest((name, alias.name)):
                    self.assertEqual(node.level, 0)
                    self.assertIsNone(alias.asname)
                    self.assertIn(alias.name, defined[node.module])

    def test_functions_and_classes_are_plain(self):
        for name, node in walked((ast.FunctionDef, ast.ClassDef)):
            with self.subTest((name, node.name)):
                self.assertEqual(node.decorator_list, [])
                if isinstance(node, ast.FunctionDef):
                    self.assertIsNone(node.args.vararg or node.args.kwarg)
                    self.assertEqual(node.args.kwonlyargs + node.args.posonlyargs, [])

    def test_statements(self):
        for name, node in walked((ast.Assign, ast.Expr, ast.For, ast.While, ast.Try, ast.ListComp, ast.Constant)):
            with self.subTest((name, node.lineno)):
                if isinstance(node, ast.Assign):
                    self.assertEqual(len(node.targets), 1)
                elif isinstance(node, ast.Expr):
                    self.assertIsInstance(node.value, (ast.Call, ast.Constant))
                elif isinstance(node, (ast.For, ast.While)):
                    self.assertEqual(node.orelse, [])
                elif isinstance(node, ast.Try):
                    self.assertEqual(node.finalbody, [])
                elif isinstance(node, ast.ListComp):
                    self.assertEqual(len(node.generators), 1)
                    self.assertLessEqual(len(node.generators[0].ifs), 1)
                else:
                    self.assertIn(type(node.value), (int, str, bool, type(None)))
                    self.assertNotIn("%", str(node.value))


class NamesTest(unittest.TestCase):
    def test_names(self):
        for name, node in walked((ast.Name, ast.arg, ast.FunctionDef, ast.ClassDef, ast.Attribute)):
            called = [getattr(node, field) for field in ("id", "arg", "name", "attr") if hasattr(node, field)][0]
            with self.subTest((name, node.lineno, called)):
                self.assertTrue(called in SPECIAL or re.match(r"[A-Za-z][A-Za-z0-9_]*$", called))
                self.assertNotIn(called, UNUSED)
                if isinstance(node, ast.Name) and isinstance(node.ctx, ast.Load):
                    self.assertTrue(called in OWN or not hasattr(builtins, called))
                elif not isinstance(node, ast.Attribute):
                    self.assertFalse(hasattr(builtins, called))

    def test_methods(self):
        own = {node.name for _, node in walked(ast.FunctionDef)}
        for name, node in walked(ast.Call):
            if isinstance(node.func, ast.Attribute):
                with self.subTest((name, node.lineno)):
                    self.assertIn(node.func.attr, METHODS | own)


if __name__ == "__main__":
    unittest.main()
