"""The package keeps to the small part of Python that it is written in.

Not every rule of the language can be seen from one place of a file; these are
the ones that can.
"""

import ast
import builtins
import pathlib
import re
import unittest

PACKAGE = pathlib.Path(__file__).resolve().parent.parent / "linegate"

STATEMENTS = (
    ast.Assign, ast.AugAssign, ast.If, ast.While, ast.For, ast.Return, ast.Break, ast.Continue, ast.Pass,
    ast.Raise, ast.Try, ast.Expr, ast.FunctionDef, ast.ClassDef, ast.ImportFrom,
)
EXPRESSIONS = (
    ast.Constant, ast.List, ast.Tuple, ast.Dict, ast.BinOp, ast.UnaryOp, ast.BoolOp, ast.Compare, ast.IfExp,
    ast.Call, ast.Attribute, ast.Subscript, ast.Slice, ast.ListComp, ast.JoinedStr, ast.FormattedValue,
    ast.Name, ast.Lambda,
)
OWN_NAMES = set(
    "len range enumerate zip min max sum abs sorted reversed int str bool list tuple dict set frozenset isinstance "
    "ord repr any all divmod Exception ValueError TypeError KeyError IndexError LookupError ZeroDivisionError "
    "ArithmeticError OverflowError RuntimeError NotImplementedError AttributeError StopIteration".split()
)
PYTHONS_METHODS = set(
    "append clear copy count endswith extend find get index insert isalnum isalpha isdigit islower isspace isupper "
    "items join keys ljust lower lstrip partition pop remove replace reverse rfind rjust rpartition rsplit rstrip "
    "setdefault split splitlines startswith strip update upper values zfill bit_length".split()
)
TWO_UNDERSCORES = {"__init__", "__eq__", "__repr__", "__str__", "__len__"}
WORDS = re.compile(
    r"\b(type|typing|typing_extensions|enum|Enum|IntEnum|StrEnum|Flag|IntFlag|Generic|Protocol|ABC|ABCMeta"
    r"|namedtuple|NamedTuple|TypedDict|TYPE_CHECKING|abstractmethod)\b|dataclass|overload|contextmanager"
)
PLAIN_NAME = re.compile(r"[A-Za-z][A-Za-z0-9_]*\Z")
BUILTIN_NAMES = set(dir(builtins))
WALKED = {"zip", "enumerate", "reversed", "range"}
WALKED_METHODS = {"items", "keys", "values"}
WALKERS = {"list", "tuple", "dict", "sorted", "sum", "any", "all", "enumerate", "zip", "min", "max"}
KEYWORDS = {
    "sorted": {"key", "reverse"}, "min": {"key", "default"}, "max": {"key", "default"},
    "sum": {"start"}, "enumerate": {"start"}, "zip": {"strict"},
}


def sources():
    return sorted(PACKAGE.glob("*.py"))


def tree_of(path):
    return ast.parse(path.read_text(encoding="utf-8"))


def own_names_of_methods_and_values():
    """The names of methods, and of values given to objects, in the whole package."""
    methods = set()
    values = set()
    for path in sources():
        for node in ast.walk(tree_of(path)):
            if isinstance(node, ast.ClassDef):
                methods |= {part.name for part in node.body if isinstance(part, ast.FunctionDef)}
            if isinstance(node, ast.Attribute) and isinstance(node.ctx, ast.Store):
                values.add(node.attr)
    return methods, values


def called(node):
    """The plain name that a call calls, or None."""
    return node.func.id if isinstance(node, ast.Call) and isinstance(node.func, ast.Name) else None


def method_called(node):
    """The name of the method that a call calls, or None."""
    return node.func.attr if isinstance(node, ast.Call) and isinstance(node.func, ast.Attribute) else None


def bound_names(tree):
    for node in ast.walk(tree):
        if isinstance(node, ast.Name) and isinstance(node.ctx, ast.Store):
            yield node, node.id
        if isinstance(node, ast.arg):
            yield node, node.arg
        if isinstance(node, (ast.FunctionDef, ast.ClassDef)):
            yield node, node.name
        if isinstance(node, ast.ExceptHandler) and node.name:
            yield node, node.name


class LanguageTest(unittest.TestCase):
    def test_files(self):
        self.assertIn("__init__.py", [path.name for path in sources()])
        for path in PACKAGE.iterdir():
            if path.name != "__pycache__":
                self.assertRegex(path.name, r"\A([a-z][a-z0-9_]*|__init__|__main__)\.py\Z")

    def test_sizes_and_signs(self):
        for path in sources():
            with self.subTest(file=path.name):
                tree = tree_of(path)
                text = path.read_bytes().decode("ascii")
                self.assertRegex(text, r"\A[ -~\n]*\Z")
                lines = text.splitlines()
                self.assertLessEqual(len(lines), 400)
                self.assertLessEqual(max(len(line) for line in lines), 120)
                for node in ast.walk(tree):
                    if isinstance(node, ast.FunctionDef):
                        self.assertLessEqual(node.end_lineno - node.lineno + 1, 40, node.name)

    def test_words_that_stand_nowhere(self):
        for path in sources():
            with self.subTest(file=path.name):
                self.assertIsNone(WORDS.search(path.read_text(encoding="utf-8")))

    def test_the_top_of_a_module(self):
        for path in sources():
            with self.subTest(file=path.name):
                tree = tree_of(path)
                names = [node.targets[0].id for node in tree.body if isinstance(node, ast.Assign)]
                names += [node.name for node in tree.body if isinstance(node, (ast.FunctionDef, ast.ClassDef))]
                names += [name.name for node in tree.body if isinstance(node, ast.ImportFrom) for name in node.names]
                self.assertEqual(len(names), len(set(names)))
                for node in tree.body:
                    self.assertIsInstance(node, (ast.Expr, ast.ImportFrom, ast.Assign, ast.FunctionDef, ast.ClassDef))
                    if isinstance(node, ast.Expr):
                        self.assertIs(node, tree.body[0])

    def test_imports(self):
        drawn = {}
        for path in sources():
            with self.subTest(file=path.name):
                tree = tree_of(path)
                rows = [node for node in ast.walk(tree) if isinstance(node, ast.ImportFrom)]
                drawn[path.stem] = [row.module.partition(".")[2] for row in rows]
                for row in rows:
                    self.assertEqual(row.level, 0)
                    self.assertRegex(row.module, r"\Alinegate\.[a-z_0-9]+\Z")
                    defined = {name for node, name in bound_names(tree_of(PACKAGE / (row.module[9:] + ".py")))}
                    for name in row.names:
                        self.assertIsNone(name.asname)
                        self.assertIn(name.name, defined)
        while drawn:
            ends = [name for name in drawn if not set(drawn[name]) & set(drawn)]
            self.assertTrue(ends, "files draw from one another")
            for name in ends:
                del drawn[name]

    def test_statements_and_expressions(self):
        for path in sources():
            with self.subTest(file=path.name):
                tree = tree_of(path)
                for node in ast.walk(tree):
                    if isinstance(node, ast.stmt):
                        self.assertIsInstance(node, STATEMENTS, ast.unparse(node))
                    if isinstance(node, ast.expr):
                        self.assertIsInstance(node, EXPRESSIONS, ast.unparse(node))
                    self.assert_plain(node)

    def assert_plain(self, node):
        if isinstance(node, ast.Assign):
            self.assertEqual(len(node.targets), 1)
        if isinstance(node, (ast.For, ast.While)):
            self.assertEqual(node.orelse, [])
        if isinstance(node, ast.Try):
            self.assertEqual(node.finalbody, [])
            self.assertTrue(all(isinstance(handler.type, ast.Name) for handler in node.handlers))
        if isinstance(node, ast.ListComp):
            self.assertEqual(len(node.generators), 1)
            self.assertLessEqual(len(node.generators[0].ifs), 1)
        if isinstance(node, ast.FormattedValue):
            self.assertIsInstance(node.value, ast.Name)
            self.assertIsNone(node.format_spec)
        if isinstance(node, ast.Constant):
            self.assertIn(type(node.value), (int, str, bool, type(None)))
            self.assertNotIn("%", str(node.value))
        if isinstance(node, (ast.BinOp, ast.AugAssign)):
            self.assertNotIsInstance(node.op, (ast.Div, ast.MatMult))
        if isinstance(node, ast.Compare):
            for op, right in zip(node.ops, node.comparators):
                if isinstance(op, (ast.Is, ast.IsNot)):
                    self.assertIn(ast.unparse(right), ("None", "True", "False"))

    def test_functions_and_classes(self):
        for path in sources():
            with self.subTest(file=path.name):
                tree = tree_of(path)
                for node in ast.walk(tree):
                    if isinstance(node, (ast.FunctionDef, ast.ClassDef)):
                        self.assertEqual(node.decorator_list, [])
                    if isinstance(node, ast.arguments):
                        self.assertEqual((node.vararg, node.kwarg), (None, None))
                        self.assertEqual((node.kwonlyargs, node.posonlyargs), ([], []))
                    if isinstance(node, ast.ClassDef):
                        self.assertLessEqual(len(node.bases), 1)
                        self.assertEqual(node.keywords, [])
                        for part in node.body:
                            if not (part is node.body[0] and isinstance(part, ast.Expr)):
                                self.assertIsInstance(part, ast.FunctionDef)

    def test_names(self):
        for path in sources():
            with self.subTest(file=path.name):
                tree = tree_of(path)
                for node, name in bound_names(tree):
                    if name not in TWO_UNDERSCORES:
                        self.assertRegex(name, PLAIN_NAME)
                        method = isinstance(node, ast.FunctionDef) and node not in tree.body
                        self.assertTrue(method or name not in BUILTIN_NAMES, name)
                for node in ast.walk(tree):
                    if isinstance(node, ast.Name) and node.id in BUILTIN_NAMES:
                        self.assertIn(node.id, OWN_NAMES)

    def test_locals_are_not_called_like_classes_or_imports(self):
        for path in sources():
            with self.subTest(file=path.name):
                tree = tree_of(path)
                taken = {name.name for node in tree.body if isinstance(node, ast.ImportFrom) for name in node.names}
                taken |= {node.name for node in tree.body if isinstance(node, ast.ClassDef)}
                for node, name in bound_names(tree):
                    if not isinstance(node, (ast.FunctionDef, ast.ClassDef)):
                        self.assertNotIn(name, taken)

    def test_methods_and_values(self):
        methods, values = own_names_of_methods_and_values()
        self.assertEqual(methods & values, set())
        for path in sources():
            with self.subTest(file=path.name):
                tree = tree_of(path)
                for node in ast.walk(tree):
                    if isinstance(node, ast.Attribute):
                        self.assertIn(node.attr, methods | values | PYTHONS_METHODS)

    def test_calls(self):
        for path in sources():
            with self.subTest(file=path.name):
                tree = tree_of(path)
                for node in ast.walk(tree):
                    if isinstance(node, ast.Call) and (called(node) in BUILTIN_NAMES or called(node) is None):
                        for keyword in node.keywords:
                            self.assertIn(keyword.arg, KEYWORDS.get(called(node), ()))

    def test_walked_at_once(self):
        for path in sources():
            with self.subTest(file=path.name):
                tree = tree_of(path)
                walked = set()
                for node in ast.walk(tree):
                    if isinstance(node, (ast.For, ast.comprehension)):
                        walked.add(node.iter)
                    if called(node) in WALKERS and node.args:
                        walked.add(node.args[0])
                for node in ast.walk(tree):
                    if called(node) in WALKED or method_called(node) in WALKED_METHODS:
                        self.assertIn(node, walked, ast.unparse(node))


if __name__ == "__main__":
    unittest.main()
