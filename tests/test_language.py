"""Looks at the package's own files for what LANGUAGE.md leaves out, as far as a plain look can see it."""

import ast
import builtins
import pathlib
import re
import unittest

PACKAGE = pathlib.Path(__file__).resolve().parent.parent / "poolrules"

# L6, L7: the forms of the language that may stand in a file.
FORMS = set("""
Module Expr ImportFrom alias FunctionDef Lambda ClassDef arguments arg Assign AugAssign If While For Return Break
Continue Pass Raise Try ExceptHandler BoolOp And Or UnaryOp Not USub UAdd Invert BinOp Add Sub Mult FloorDiv Mod Pow
BitAnd BitOr BitXor LShift RShift Compare Eq NotEq Lt LtE Gt GtE Is IsNot In NotIn IfExp Call keyword Attribute
Subscript Slice ListComp comprehension JoinedStr FormattedValue Constant Name Load Store List Tuple Dict Set
""".split())

# L8: Python's own names.
OWN = set("""
len range enumerate zip min max sum abs sorted reversed int str bool list tuple dict set frozenset isinstance ord
repr any all divmod Exception ValueError TypeError KeyError IndexError LookupError ZeroDivisionError ArithmeticError
OverflowError RuntimeError NotImplementedError AttributeError StopIteration
""".split())

# L25: methods of Python's own values.
METHODS = set("""
append clear copy count endswith extend find get index insert isalnum isalpha isdigit islower isspace isupper items
join keys ljust lower lstrip partition pop remove replace reverse rfind rjust rpartition rsplit rstrip setdefault
split splitlines startswith strip update upper values zfill bit_length
""".split())

SPECIAL = {"__init__", "__eq__", "__repr__", "__str__", "__len__"}

# L17: words that stand nowhere, and names that are not used.
WORDS = re.compile(
    r"\b(type|typing|typing_extensions|enum|Enum|IntEnum|StrEnum|Flag|IntFlag|Generic|Protocol|ABC|ABCMeta|"
    r"namedtuple|NamedTuple|TypedDict|TYPE_CHECKING|abstractmethod)\b|dataclass|overload|contextmanager")
UNUSED = {"register", "mro", "elements", "open", "input", "version_info", "with_traceback", "add_note", "sys", "os"}


def files():
    return sorted(PACKAGE.glob("*.py"))


def trees():
    return [(path.name, ast.parse(path.read_text())) for path in files()]


def top_names(tree):
    """The names that a file itself binds at its top, each as often as it is bound."""
    names = [node.name for node in tree.body if isinstance(node, (ast.FunctionDef, ast.ClassDef))]
    return names + [target.id for node in tree.body if isinstance(node, ast.Assign) for target in node.targets]


def imported(tree):
    return [alias.name for node in tree.body if isinstance(node, ast.ImportFrom) for alias in node.names]


def parents(tree):
    return {id(child): node for node in ast.walk(tree) for child in ast.iter_child_nodes(node)}


def is_call_of(node, names):
    return isinstance(node, ast.Call) and isinstance(node.func, ast.Name) and node.func.id in names


def is_method_call(node, names):
    return isinstance(node, ast.Call) and isinstance(node.func, ast.Attribute) and node.func.attr in names


def walked(kinds):
    return [(name, node) for name, tree in trees() for node in ast.walk(tree) if isinstance(node, kinds)]


class FilesTest(unittest.TestCase):
    def test_only_plain_files_lie_in_the_package(self):
        for path in PACKAGE.iterdir():
            if path.name != "__pycache__":
                self.assertRegex(path.name, r"^([a-z][a-z0-9_]*|__init__|__main__)\.py$")

    def test_signs_words_and_sizes(self):
        for path in files():
            text = path.read_bytes().decode("ascii")
            lines = text.split("\n")
            with self.subTest(path.name):
                self.assertRegex(text, r"\A[ -~\n]*\Z")
                self.assertIsNone(WORDS.search(text))
                self.assertLessEqual(len(lines), 400)
                self.assertLessEqual(max(len(line) for line in lines), 120)

    def test_functions_are_small(self):
        for name, node in walked(ast.FunctionDef):
            with self.subTest((name, node.name)):
                self.assertLessEqual(node.end_lineno - node.lineno + 1, 40)


class FormsTest(unittest.TestCase):
    def test_forms(self):
        for name, node in walked(ast.AST):
            with self.subTest((name, getattr(node, "lineno", 0))):
                self.assertIn(type(node).__name__, FORMS)

    def test_the_top_of_a_file(self):
        for name, tree in trees():
            self.assertIsNotNone(ast.get_docstring(tree), name)
            for node in tree.body[1:]:
                with self.subTest((name, node.lineno)):
                    self.assertIsInstance(node, (ast.ImportFrom, ast.FunctionDef, ast.ClassDef, ast.Assign))

    def test_values_of_the_top_are_plain(self):
        for name, tree in trees():
            for node in tree.body:
                if isinstance(node, ast.Assign):
                    for inner in ast.walk(node.value):
                        with self.subTest((name, node.lineno)):
                            self.assertIsInstance(inner, (ast.Constant, ast.Tuple, ast.Load))

    def test_imports_come_from_the_file_that_defines_the_name(self):
        defined = {"poolrules." + path.stem: top_names(ast.parse(path.read_text())) for path in files()}
        for name, node in walked(ast.ImportFrom):
            for alias in node.names:
                with self.subTest((name, alias.name)):
                    self.assertEqual(node.level, 0)
                    self.assertIsNone(alias.asname)
                    self.assertIn(alias.name, defined[node.module])

    def test_functions_and_classes_are_plain(self):
        for name, node in walked((ast.FunctionDef, ast.ClassDef)):
            with self.subTest((name, node.name)):
                self.assertEqual(node.decorator_list, [])
                if isinstance(node, ast.FunctionDef):
                    self.assertIsNone(node.args.vararg or node.args.kwarg)
                    self.assertEqual(node.args.kwonlyargs + node.args.posonlyargs, [])

    def test_statements(self):
        for name, node in walked((ast.Assign, ast.Expr, ast.For, ast.While, ast.Try, ast.ListComp, ast.Constant)):
            with self.subTest((name, node.lineno)):
                if isinstance(node, ast.Assign):
                    self.assertEqual(len(node.targets), 1)
                elif isinstance(node, ast.Expr):
                    self.assertIsInstance(node.value, (ast.Call, ast.Constant))
                elif isinstance(node, (ast.For, ast.While)):
                    self.assertEqual(node.orelse, [])
                elif isinstance(node, ast.Try):
                    self.assertEqual(node.finalbody, [])
                elif isinstance(node, ast.ListComp):
                    self.assertEqual(len(node.generators), 1)
                    self.assertLessEqual(len(node.generators[0].ifs), 1)
                else:
                    self.assertIn(type(node.value), (int, str, bool, type(None)))
                    self.assertNotIn("%", str(node.value))


class NamesTest(unittest.TestCase):
    def test_names(self):
        for name, node in walked((ast.Name, ast.arg, ast.FunctionDef, ast.ClassDef, ast.Attribute)):
            called = [getattr(node, field) for field in ("id", "arg", "name", "attr") if hasattr(node, field)][0]
            if called in SPECIAL:
                continue
            with self.subTest((name, node.lineno, called)):
                self.assertRegex(called, r"^[A-Za-z][A-Za-z0-9_]*$")
                self.assertNotIn(called, UNUSED)
                if isinstance(node, ast.Name) and isinstance(node.ctx, ast.Load):
                    self.assertTrue(called in OWN or not hasattr(builtins, called))
                elif not isinstance(node, ast.Attribute):
                    self.assertFalse(hasattr(builtins, called))

    def test_methods(self):
        own = {node.name for _, node in walked(ast.FunctionDef)}
        for name, node in walked(ast.Call):
            if isinstance(node.func, ast.Attribute):
                with self.subTest((name, node.lineno)):
                    self.assertIn(node.func.attr, METHODS | own | SPECIAL)

    def test_each_name_once(self):
        for name, tree in trees():
            top = top_names(tree) + imported(tree)
            self.assertEqual(sorted(set(top)), sorted(top), name)
            classes = [node.name for node in tree.body if isinstance(node, ast.ClassDef)]
            for node in ast.walk(tree):
                local = node.arg if isinstance(node, ast.arg) else None
                if isinstance(node, ast.Name) and isinstance(node.ctx, ast.Store):
                    local = node.id
                if local is not None:
                    with self.subTest((name, node.lineno, local)):
                        self.assertNotIn(local, classes + imported(tree))

    def test_no_two_files_draw_from_one_another(self):
        drawn = {
            "poolrules." + path.stem: [node.module for node in ast.parse(path.read_text()).body
                                       if isinstance(node, ast.ImportFrom)]
            for path in files()
        }
        while drawn:
            free = [name for name in drawn if not any(other in drawn for other in drawn[name])]
            self.assertNotEqual(free, [], drawn)
            for name in free:
                del drawn[name]

    def test_methods_and_values_of_classes(self):
        methods = {node.name for _, tree in walked(ast.ClassDef) for node in tree.body if isinstance(node, ast.FunctionDef)}
        values = {
            node.attr for _, node in walked(ast.Attribute)
            if isinstance(node.ctx, ast.Store)
        }
        self.assertEqual(methods & values, set())
        python = {name for kind in (str, int, list, dict, set, bytes, tuple) for name in dir(kind)}
        self.assertEqual((methods - SPECIAL - METHODS - {"add", "discard"}) & python, set())
        allowed = {"count", "index", "title", "find", "get", "join", "lower", "upper", "split", "strip", "copy", "add"}
        self.assertEqual((values - allowed) & python, set())

    def test_classes_stand_only_where_they_may(self):
        classes = {node.name for _, node in walked(ast.ClassDef)}
        for name, tree in trees():
            above = parents(tree)
            for node in ast.walk(tree):
                if isinstance(node, ast.Name) and node.id in classes:
                    over = above[id(node)]
                    with self.subTest((name, node.lineno, node.id)):
                        self.assertTrue(
                            isinstance(over, (ast.ClassDef, ast.ExceptHandler)) or is_call_of(over, ("isinstance",))
                            or (isinstance(over, ast.Call) and over.func is node)
                            or (isinstance(over, ast.Attribute) and over.attr == "__init__"))


class UseTest(unittest.TestCase):
    def test_is(self):
        for name, node in walked(ast.Compare):
            for how, value in zip(node.ops, node.comparators):
                if isinstance(how, (ast.Is, ast.IsNot)):
                    with self.subTest((name, node.lineno)):
                        self.assertTrue(isinstance(value, ast.Constant) and value.value in (None, True, False))

    def test_keywords(self):
        known = {"sorted": ("key", "reverse"), "min": ("key", "default"), "max": ("key", "default"),
                 "sum": ("start",), "enumerate": ("start",), "zip": ("strict",)}
        for name, node in walked(ast.Call):
            for keyword in node.keywords:
                with self.subTest((name, node.lineno)):
                    self.assertIn(keyword.arg, known.get(getattr(node.func, "id", ""), ()))

    def test_walked_at_once(self):
        for name, tree in trees():
            above = parents(tree)
            for node in ast.walk(tree):
                if not is_call_of(node, ("zip", "enumerate", "reversed", "range")) and \
                        not is_method_call(node, ("items", "keys", "values")):
                    continue
                over = above[id(node)]
                with self.subTest((name, node.lineno)):
                    if isinstance(over, (ast.For, ast.comprehension)):
                        self.assertIs(over.iter, node)
                    else:
                        self.assertTrue(is_call_of(over, (
                            "list", "tuple", "dict", "sorted", "sum", "any", "all", "enumerate", "zip", "min", "max")))

    def test_sets(self):
        for name, tree in trees():
            above = parents(tree)
            for node in ast.walk(tree):
                if is_call_of(node, ("set", "frozenset")):
                    over = above[id(node)]
                    with self.subTest((name, node.lineno)):
                        self.assertTrue(is_call_of(over, ("sorted", "len")) or isinstance(over, (ast.Compare, ast.BinOp)))
                self.assertNotIsInstance(node, ast.Set)

    def test_what_a_loop_walks_is_not_changed_in_it(self):
        changing = ("append", "clear", "extend", "insert", "pop", "remove", "reverse", "setdefault", "update")
        for name, node in walked(ast.For):
            walks = node.iter
            while isinstance(walks, ast.Call) and walks.args and is_call_of(walks, ("enumerate", "zip", "reversed")):
                walks = walks.args[0]
            if is_method_call(walks, ("items", "keys", "values")):
                walks = walks.func.value
            changed = [inner.func.value for inner in ast.walk(node) if is_method_call(inner, changing)]
            changed += [inner.value for inner in ast.walk(node)
                        if isinstance(inner, ast.Subscript) and isinstance(inner.ctx, ast.Store)]
            with self.subTest((name, node.lineno)):
                self.assertNotIn(ast.dump(walks), [ast.dump(value).replace("Store()", "Load()") for value in changed])

    def test_powers_are_written(self):
        for name, node in walked(ast.BinOp):
            if isinstance(node.op, ast.Pow):
                with self.subTest((name, node.lineno)):
                    self.assertIsInstance(node.right, ast.Constant)

    def test_texts_with_names_are_plain(self):
        for name, node in walked(ast.FormattedValue):
            with self.subTest((name, node.lineno)):
                self.assertIsInstance(node.value, ast.Name)
                self.assertIsNone(node.format_spec)
                self.assertIn(node.conversion, (-1, ord("r")))

    def test_errors_are_taken_by_name(self):
        for name, node in walked(ast.ExceptHandler):
            with self.subTest((name, node.lineno)):
                self.assertIsInstance(node.type, ast.Name)
                self.assertNotIn(node.type.id, ("Exception", "TypeError"))


if __name__ == "__main__":
    unittest.main()
