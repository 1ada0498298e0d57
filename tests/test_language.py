"""Holds every file of the package against the rules of LANGUAGE.md that can be seen in its text."""

import ast
import builtins
import pathlib
import re
import unittest

PACKAGE = pathlib.Path(__file__).resolve().parent.parent / "pathask"

ERRORS = set(
    "Exception ValueError TypeError KeyError IndexError LookupError ZeroDivisionError ArithmeticError OverflowError "
    "RuntimeError NotImplementedError AttributeError StopIteration".split())
ALLOWED_NAMES = ERRORS | set(
    "len range enumerate zip min max sum abs sorted reversed int str bool list tuple dict set frozenset isinstance "
    "ord repr any all divmod".split())
PYTHONS_METHODS = set(
    "append clear copy count endswith extend find get index insert isalnum isalpha isdigit islower isspace isupper "
    "items join keys ljust lower lstrip partition pop remove replace reverse rfind rjust rpartition rsplit rstrip "
    "setdefault split splitlines startswith strip update upper values zfill bit_length".split())
OWN_DUNDERS = set("__init__ __eq__ __repr__ __str__ __len__".split())
VALUE_NAMES = set("count index title find get join lower upper split strip copy add".split())
BANNED_WORDS = set(
    "type typing typing_extensions enum Enum IntEnum StrEnum Flag IntFlag Generic Protocol ABC ABCMeta namedtuple "
    "NamedTuple TypedDict TYPE_CHECKING abstractmethod".split())
BANNED_PARTS = ("dataclass", "overload", "contextmanager")
BANNED_NAMES = set(
    "register mro elements open input version_info with_traceback add_note format format_map f_back tb_next "
    "co_names".split())
NOT_AS_NAMES = set("attrgetter gc importlib methodcaller os sys".split())
FILE_NAMES_OUT = set("test tests testing site conftest sitecustomize usercustomize".split())
PLAIN_VALUES = (int, str, bool, type(None))
STATEMENTS = (
    ast.Assign, ast.AugAssign, ast.If, ast.While, ast.For, ast.Return, ast.Break, ast.Continue, ast.Pass, ast.Raise,
    ast.Try, ast.Expr, ast.FunctionDef, ast.ClassDef, ast.ImportFrom)
EXPRESSIONS = (
    ast.Constant, ast.List, ast.Tuple, ast.Dict, ast.Set, ast.BinOp, ast.UnaryOp, ast.BoolOp, ast.Compare, ast.IfExp,
    ast.Call, ast.Attribute, ast.Subscript, ast.Slice, ast.ListComp, ast.JoinedStr, ast.FormattedValue, ast.Lambda,
    ast.Name)
WALKED = ("zip", "enumerate", "reversed", "range")
CHANGERS = set("append clear extend insert pop remove reverse setdefault update add discard".split())
WALKERS = ("list", "tuple", "dict", "sorted", "sum", "any", "all", "enumerate", "zip", "min", "max")


def pythons_own_names():
    found = set()
    for kind in (str, int, list, tuple, dict, set, frozenset, bytes):
        found |= {name for name in dir(kind) if not name.startswith("__")}
    return found


def names_in(node):
    return {part.id for part in ast.walk(node) if isinstance(part, ast.Name)}


def changed_in(node):
    """The names of lists and dicts that are changed there by a method or by an index."""
    found = set()
    for part in ast.walk(node):
        if isinstance(part, ast.Call) and isinstance(part.func, ast.Attribute) and part.func.attr in CHANGERS:
            found |= {part.func.value.id} if isinstance(part.func.value, ast.Name) else set()
        if isinstance(part, ast.Subscript) and isinstance(part.ctx, ast.Store) and isinstance(part.value, ast.Name):
            found.add(part.value.id)
    return found


def is_call_of(node, names):
    return isinstance(node, ast.Call) and isinstance(node.func, ast.Name) and node.func.id in names


class Checker:
    """Gathers as (rule, line) what the text of one file breaks."""

    def __init__(self, text, module, own_methods=()):
        self.text = text
        self.module = module
        self.own_methods = set(own_methods)
        self.tree = ast.parse(text)
        self.parents = {}
        self.found = []
        for node in ast.walk(self.tree):
            for child in ast.iter_child_nodes(node):
                self.parents[child] = node

    def told(self, rule, node):
        self.found.append((rule, node if isinstance(node, int) else getattr(node, "lineno", 0)))

    def check(self):
        self.check_text()
        self.check_top()
        self.check_locals()
        for node in ast.walk(self.tree):
            if isinstance(node, ast.stmt):
                self.check_statement(node)
            if isinstance(node, ast.expr):
                self.check_expression(node)
            if isinstance(node, (ast.FunctionDef, ast.Lambda)):
                self.check_function(node)
            if isinstance(node, ast.ClassDef):
                self.check_class(node)
        return self.found

    def check_text(self):
        rows = self.text.split("\n")
        if len(rows) > 401:
            self.told("L10", 401)
        for number, row in enumerate(rows, start=1):
            if len(row) > 120:
                self.told("L10", number)
            if not all(" " <= sign <= "~" for sign in row):
                self.told("L14", number)
            words = re.findall(r"\w+", row)
            if BANNED_WORDS & set(words) or any(part in row for part in BANNED_PARTS):
                self.told("L17", number)

    def check_locals(self):
        taken, at_top = set(), set()
        for node in self.tree.body:
            if isinstance(node, ast.ImportFrom):
                taken |= {alias.asname or alias.name for alias in node.names}
            if isinstance(node, ast.ClassDef):
                taken.add(node.name)
            if isinstance(node, ast.Assign) and isinstance(node.value, (ast.List, ast.Dict)):
                at_top |= names_in(node.targets[0])
        for node in ast.walk(self.tree):
            if isinstance(node, ast.arg) and node.arg in taken:
                self.told("L15", node)
            if isinstance(node, ast.Name) and isinstance(node.ctx, ast.Store) and node.id in taken:
                self.told("L15", node)
            if isinstance(node, ast.FunctionDef) and changed_in(node) & at_top:
                self.told("L15", node)

    def check_top(self):
        bound = []
        ahead = True
        for number, node in enumerate(self.tree.body):
            is_docstring = number == 0 and isinstance(node, ast.Expr) and isinstance(node.value, ast.Constant)
            if isinstance(node, ast.ImportFrom):
                if not ahead:
                    self.told("L2", node)
                bound += [alias.asname or alias.name for alias in node.names]
            elif isinstance(node, (ast.FunctionDef, ast.ClassDef)):
                ahead = False
                bound.append(node.name)
            elif isinstance(node, ast.Assign) and isinstance(node.targets[0], ast.Name):
                ahead = False
                bound.append(node.targets[0].id)
                self.check_plain(node.value)
            elif not is_docstring:
                self.told("L3", node)
        if len(bound) != len(set(bound)):
            self.told("L15", 0)

    def check_plain(self, value):
        for node in ast.walk(value):
            fine = (ast.Constant, ast.List, ast.Tuple, ast.Dict, ast.Name, ast.expr_context, ast.UnaryOp, ast.USub)
            if not isinstance(node, fine):
                self.told("L3", node)
            if node is not value and isinstance(node, (ast.List, ast.Dict)):
                self.told("L15", node)

    def check_statement(self, node):
        if not isinstance(node, STATEMENTS):
            self.told("L6", node)
        if isinstance(node, ast.Assign) and len(node.targets) != 1:
            self.told("L6", node)
        if isinstance(node, (ast.For, ast.While)) and node.orelse:
            self.told("L6", node)
        if isinstance(node, ast.Try) and (node.finalbody or not all(handler.type for handler in node.handlers)):
            self.told("L6", node)
        if isinstance(node, ast.Expr) and not isinstance(node.value, ast.Call) and node is not self.tree.body[0]:
            self.told("L6", node)
        if isinstance(node, ast.ClassDef) and self.parents[node] is not self.tree:
            self.told("L15", node)
        if isinstance(node, ast.For) and any(names_in(node.iter) & changed_in(part) for part in node.body):
            self.told("L23", node)
        if isinstance(node, ast.ImportFrom):
            self.check_import(node)

    def check_import(self, node):
        if self.parents[node] is not self.tree or node.level or any(alias.name == "*" for alias in node.names):
            self.told("L2", node)
        if node.module != "__future__" and not (node.module or "").startswith("pathask."):
            self.told("L2", node)

    def check_expression(self, node):
        if not isinstance(node, EXPRESSIONS):
            self.told("L7", node)
        if isinstance(node, ast.Constant):
            self.check_constant(node)
        if isinstance(node, ast.BinOp) and isinstance(node.op, (ast.Div, ast.MatMult)):
            self.told("L7", node)
        if isinstance(node, ast.BinOp) and isinstance(node.op, ast.Pow) and not isinstance(node.right, ast.Constant):
            self.told("L27", node)
        if isinstance(node, ast.ListComp) and (len(node.generators) != 1 or len(node.generators[0].ifs) > 1):
            self.told("L7", node)
        if isinstance(node, ast.FormattedValue) and not isinstance(node.value, ast.Name):
            self.told("L7", node)
        if isinstance(node, ast.Compare):
            self.check_compare(node)
        if isinstance(node, ast.Name):
            self.check_name(node)
        if isinstance(node, ast.Attribute):
            self.check_attribute(node)
        if isinstance(node, ast.Call):
            self.check_call(node)

    def check_constant(self, node):
        if not isinstance(node.value, PLAIN_VALUES):
            self.told("L7", node)
        if isinstance(node.value, str) and "%" in node.value:
            self.told("L27", node)

    def check_compare(self, node):
        for operator, side in zip(node.ops, node.comparators):
            if isinstance(operator, (ast.Is, ast.IsNot)):
                if not (isinstance(side, ast.Constant) and side.value in (None, True, False)):
                    self.told("L20", node)

    def check_name(self, node):
        pythons = hasattr(builtins, node.id)
        if node.id.startswith("_"):
            self.told("L12", node)
        if pythons and node.id not in ALLOWED_NAMES or node.id in NOT_AS_NAMES | BANNED_NAMES:
            self.told("L8", node)
        if pythons and not isinstance(node.ctx, ast.Load):
            self.told("L15", node)

    def check_attribute(self, node):
        if node.attr.startswith("_") and node.attr not in OWN_DUNDERS:
            self.told("L12", node)
        if node.attr in BANNED_NAMES:
            self.told("L17", node)
        parent = self.parents[node]
        called = isinstance(parent, ast.Call) and parent.func is node
        if called and node.attr not in PYTHONS_METHODS | self.own_methods | OWN_DUNDERS:
            self.told("L25", node)
        if not called and node.attr in pythons_own_names() - VALUE_NAMES:
            self.told("L26", node)

    def check_call(self, node):
        if any(isinstance(argument, ast.Starred) for argument in node.args):
            self.told("L7", node)
        if any(keyword.arg is None for keyword in node.keywords):
            self.told("L7", node)
        parent = self.parents[node]
        is_view = isinstance(node.func, ast.Attribute) and node.func.attr in ("items", "keys", "values")
        if is_call_of(node, WALKED) or is_view:
            walked = isinstance(parent, (ast.For, ast.comprehension)) and parent.iter is node
            if not (walked or is_call_of(parent, WALKERS)):
                self.told("L23", node)
        if is_call_of(node, ("set", "frozenset")) and not self.is_asked_on_the_spot(node):
            self.told("L24", node)

    def is_asked_on_the_spot(self, node):
        parent = self.parents[node]
        while isinstance(parent, ast.BinOp) and isinstance(parent.op, (ast.Sub, ast.BitAnd, ast.BitOr, ast.BitXor)):
            parent = self.parents[parent]
        if isinstance(parent, ast.Compare):
            return all(isinstance(operator, (ast.In, ast.NotIn, ast.Eq, ast.NotEq)) for operator in parent.ops)
        return is_call_of(parent, ("sorted", "len")) and not parent.keywords

    def check_function(self, node):
        given = node.args
        if given.vararg or given.kwarg or given.kwonlyargs or given.posonlyargs:
            self.told("L4", node)
        if not all(isinstance(default, ast.Constant) for default in given.defaults):
            self.told("L4", node)
        for argument in given.args:
            if argument.arg.startswith("_"):
                self.told("L12", node)
            if hasattr(builtins, argument.arg):
                self.told("L15", node)
            if argument.annotation:
                self.told("L21", node)
        if isinstance(node, ast.FunctionDef):
            if node.decorator_list:
                self.told("L4", node)
            if node.end_lineno - node.lineno + 1 > 40:
                self.told("L10", node)
            if node.name.startswith("_") and node.name not in OWN_DUNDERS:
                self.told("L12", node)

    def check_class(self, node):
        if node.decorator_list or len(node.bases) > 1 or node.keywords:
            self.told("L5", node)
        names = [part.name for part in node.body if isinstance(part, ast.FunctionDef)]
        if not all(isinstance(part, (ast.FunctionDef, ast.Pass)) for part in node.body):
            self.told("L5", node)
        if len(names) != len(set(names)):
            self.told("L18", node)
        if set(names) & (pythons_own_names() - PYTHONS_METHODS - {"add", "discard"} | BANNED_NAMES):
            self.told("L26", node)


def methods_in(tree):
    found = set()
    for node in ast.walk(tree):
        if isinstance(node, ast.ClassDef):
            found |= {part.name for part in node.body if isinstance(part, ast.FunctionDef)}
    return found - OWN_DUNDERS


def values_in(tree):
    return {
        node.attr for node in ast.walk(tree) if isinstance(node, ast.Attribute) and isinstance(node.ctx, ast.Store)}


def names_at_top(tree):
    found = set()
    for node in tree.body:
        if isinstance(node, (ast.FunctionDef, ast.ClassDef)):
            found.add(node.name)
        if isinstance(node, ast.Assign):
            found |= {target.id for target in node.targets}
    return found


def drawn_from(tree):
    rows = [node for node in tree.body if isinstance(node, ast.ImportFrom) and node.module != "__future__"]
    return {node.module.partition(".")[2]: {alias.name for alias in node.names} for node in rows}


class TheLanguage(unittest.TestCase):
    def setUp(self):
        self.texts = {path.stem: path.read_text(encoding="utf-8") for path in sorted(PACKAGE.glob("*.py"))}
        self.trees = {stem: ast.parse(text) for stem, text in self.texts.items()}

    def test_every_file_keeps_to_the_rules(self):
        methods = set()
        for tree in self.trees.values():
            methods |= methods_in(tree)
        for stem, text in self.texts.items():
            with self.subTest(stem):
                self.assertEqual(Checker(text, stem, methods).check(), [])

    def test_nothing_but_plain_files_lies_in_the_package(self):
        self.assertIn("__init__", self.texts)
        for path in PACKAGE.iterdir():
            if path.name == "__pycache__":
                continue
            with self.subTest(path.name):
                self.assertRegex(path.name, r"^([a-z][a-z0-9_]*|__init__|__main__)\.py$")
                self.assertFalse(path.stem.startswith("test_"))
                self.assertNotIn(path.stem, FILE_NAMES_OUT | BANNED_WORDS | set(dir(builtins)))

    def test_names_are_drawn_from_the_file_that_defines_them(self):
        for stem, tree in self.trees.items():
            for drawn, names in drawn_from(tree).items():
                with self.subTest(stem):
                    self.assertLessEqual(names, names_at_top(self.trees[drawn]))

    def test_no_two_files_draw_from_one_another(self):
        left = {stem: set(drawn_from(tree)) for stem, tree in self.trees.items()}
        while left:
            free = [stem for stem in left if not left[stem] & set(left)]
            self.assertTrue(free, left)
            left = {stem: drawn for stem, drawn in left.items() if stem not in free}

    def test_no_name_is_both_a_method_and_a_value(self):
        methods, values = set(), set()
        for tree in self.trees.values():
            methods |= methods_in(tree)
            values |= values_in(tree)
        self.assertEqual(methods & values, set())

    def test_the_first_file_binds_no_name(self):
        self.assertEqual(names_at_top(self.trees["__init__"]), set())


class TheCheckerItself(unittest.TestCase):
    def test_code_outside_the_rules_is_seen(self):
        outside = {
            "import os\n": "L6",
            "from os import path\n": "L2",
            "from .errors import NoKnot\n": "L2",
            "x = 1\nx = 2\n": "L15",
            "x = [[1]]\n": "L15",
            "x = len('a')\n": "L3",
            "def f(*a):\n    return a\n": "L4",
            "def f(a=[]):\n    return a\n": "L4",
            "class A:\n    x = 1\n": "L5",
            "def f(a):\n    assert a\n": "L6",
            "def f(a):\n    a = b = 1\n": "L6",
            "def f(a):\n    return a / 2\n": "L7",
            "def f(a):\n    return 1.5\n": "L7",
            "def f(a):\n    return {b for b in a}\n": "L7",
            "def f(a):\n    return all(b for b in a)\n": "L7",
            "def f(a):\n    return [*a]\n": "L7",
            "def f(a):\n    return hash(a)\n": "L8",
            "def f(a):\n    return chr(a)\n": "L8",
            "def f(a):\n    return a" + " + 1" * 40 + "\n": "L10",
            "def f(_a):\n    return 1\n": "L12",
            "def f(id):\n    return 1\n": "L15",
            "from pathask.names import is_name\n\n\ndef f(is_name):\n    return 1\n": "L15",
            "class A:\n    pass\n\n\ndef f():\n    A = 1\n    return A\n": "L15",
            "x = []\n\n\ndef f(a):\n    x.append(a)\n": "L15",
            "# an enum\n": "L17",
            "def f(a, b):\n    return a is b\n": "L20",
            "def f(a: int):\n    return a\n": "L21",
            "def f(a):\n    b = range(a)\n    return b\n": "L23",
            "def f(a):\n    for b in a:\n        a.append(b)\n": "L23",
            "def f(a):\n    for b, c in enumerate(a):\n        a[b] = c\n": "L23",
            "def f(a):\n    b = set(a)\n    return b\n": "L24",
            "def f(a, b):\n    return set(a) <= set(b)\n": "L24",
            "def f(a, b):\n    return list(set(a) & set(b))\n": "L24",
            "def f(a):\n    return sorted(set(a), key=len)\n": "L24",
            "def f(a):\n    a.sort()\n": "L25",
            "def f(a):\n    a.keys = 1\n": "L26",
            "class A:\n    def encode(self):\n        return 1\n": "L26",
            "def f(a):\n    return 2 ** a\n": "L27",
            "def f(a):\n    return '%s'\n": "L27",
        }
        for text, rule in outside.items():
            with self.subTest(text):
                self.assertIn(rule, [row[0] for row in Checker(text, "some").check()])


if __name__ == "__main__":
    unittest.main()
