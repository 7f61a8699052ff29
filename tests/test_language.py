"""Holds the package's files to the written rules of the language part, as far as a walk of the tree can see."""

import ast
import builtins
import re
import unittest
from pathlib import Path

PACKAGE = Path(__file__).resolve().parent.parent / "lath"

NODES = """
Module FunctionDef ClassDef arguments arg Return Assign AugAssign For While If Raise Try ExceptHandler
ImportFrom alias Expr Pass Break Continue BoolOp And Or BinOp UnaryOp Not USub UAdd Invert Lambda IfExp
Dict List Tuple Set ListComp comprehension Compare Call JoinedStr FormattedValue Constant Attribute
Subscript Slice keyword Name Load Store Add Sub Mult FloorDiv Mod Pow LShift RShift BitOr BitXor BitAnd
Eq NotEq Lt LtE Gt GtE Is IsNot In NotIn
""".split()

BUILT_IN = """
len range enumerate zip min max sum abs sorted reversed int str bool list tuple dict set frozenset
isinstance ord repr any all divmod Exception ValueError TypeError KeyError IndexError LookupError
ZeroDivisionError ArithmeticError OverflowError RuntimeError NotImplementedError AttributeError StopIteration
""".split()

METHODS = """
append clear copy count endswith extend find get index insert isalnum isalpha isdigit islower isspace
isupper items join keys ljust lower lstrip partition pop remove replace reverse rfind rjust rpartition
rsplit rstrip setdefault split splitlines startswith strip update upper values zfill bit_length
""".split()

SPECIAL = ("__init__", "__eq__", "__repr__", "__str__", "__len__")

UNUSED = """
register mro elements open input version_info with_traceback add_note attrgetter breakpoint builtins compile
copyright credits delattr dir eval exec exit gc getattr globals hasattr help id importlib license locals
methodcaller os quit setattr super vars sys format format_map
""".split()

WORDS = re.compile(
    r"\b(type|typing|typing_extensions|enum|Enum|IntEnum|StrEnum|Flag|IntFlag|Generic|Protocol|ABC|ABCMeta"
    r"|namedtuple|NamedTuple|TypedDict|TYPE_CHECKING|abstractmethod)\b|dataclass|overload|contextmanager"
)

KEYWORDS = {
    "sorted": ["key", "reverse"], "min": ["key", "default"], "max": ["key", "default"],
    "sum": ["start"], "enumerate": ["start"], "zip": ["strict"],
}

WALKED = ("zip", "enumerate", "reversed", "range")

WALKERS = ("list", "tuple", "dict", "sorted", "sum", "any", "all", "enumerate", "zip", "min", "max")

OUT_OF_TEXTS = ("chr(", "2 ** ")


def text_faults(text):
    faults = []
    rows = text.split("\n")
    if len(rows) > 401:
        faults.append("L10 file")
    for row in rows:
        if len(row) > 120:
            faults.append("L10 row: " + row)
        if any(not " " <= sign <= "~" for sign in row):
            faults.append("L14 sign: " + row)
        if WORDS.search(row):
            faults.append("L17 word: " + row)
        if any(part in row for part in OUT_OF_TEXTS):
            faults.append("L27: " + row)
    return faults


def imported(tree):
    return [alias.name for node in tree.body if isinstance(node, ast.ImportFrom) for alias in node.names]


def made_at_the_top(tree):
    made = [node.name for node in tree.body if isinstance(node, (ast.FunctionDef, ast.ClassDef))]
    return made + [node.targets[0].id for node in tree.body if isinstance(node, ast.Assign)]


def own_classes(tree):
    return [node.name for node in tree.body if isinstance(node, ast.ClassDef)]


def is_plain(value):
    if isinstance(value, (ast.Tuple, ast.List)):
        return all(is_plain(part) for part in value.elts)
    if isinstance(value, ast.Dict):
        return all(is_plain(part) for part in value.keys + value.values)
    if isinstance(value, ast.UnaryOp):
        return isinstance(value.op, ast.USub) and isinstance(value.operand, ast.Constant)
    return isinstance(value, (ast.Constant, ast.Name))


def top_faults(tree):
    faults = ["L3 no plain value" for node in tree.body if isinstance(node, ast.Assign) and not is_plain(node.value)]
    bound = imported(tree) + made_at_the_top(tree)
    for place, node in enumerate(tree.body):
        if isinstance(node, ast.Expr):
            if place > 0 or not isinstance(node.value, ast.Constant):
                faults.append("L3 a value by itself")
        elif not isinstance(node, (ast.FunctionDef, ast.ClassDef, ast.Assign, ast.ImportFrom)):
            faults.append("L3 " + ast.dump(node)[:60])
    if len(bound) != len(set(bound)):
        faults.append("L15 a name is bound twice at the top")
    return faults


def name_faults(name):
    if name in SPECIAL:
        return []
    if name in UNUSED:
        return ["L17 name " + name]
    if not re.fullmatch("[A-Za-z][A-Za-z0-9_]*", name):
        return ["L12 name " + name]
    return []


def def_faults(node):
    faults = []
    given = node.args
    if given.vararg or given.kwarg or given.kwonlyargs or given.posonlyargs:
        faults.append("L4 parameters")
    if isinstance(node, ast.FunctionDef):
        if node.decorator_list or node.returns or any(arg.annotation for arg in given.args):
            faults.append("L4 or L21 at " + node.name)
        if node.end_lineno - node.lineno + 1 > 40:
            faults.append("L10 def " + node.name)
        if isinstance(node.body[0], ast.Expr) and isinstance(node.body[0].value, ast.Constant):
            faults.append("L6 a text by itself in " + node.name)
    return faults


def class_faults(node):
    faults = []
    if node.decorator_list or node.keywords or len(node.bases) > 1:
        faults.append("L5 class " + node.name)
    if not all(isinstance(part, (ast.FunctionDef, ast.Pass)) for part in node.body):
        faults.append("L5 body of " + node.name)
    return faults


def statement_faults(node):
    faults = []
    if isinstance(node, ast.Assign) and (len(node.targets) > 1 or isinstance(node.targets[0], (ast.Tuple, ast.List))):
        faults.append("L6 one target")
    if isinstance(node, (ast.For, ast.While)) and node.orelse:
        faults.append("L6 else behind a loop")
    if isinstance(node, ast.Try) and node.finalbody:
        faults.append("L6 finally")
    if isinstance(node, ast.ImportFrom) and (node.level or not node.module.startswith("lath.")):
        faults.append("L2 import")
    if isinstance(node, ast.Compare):
        for sign, right in zip(node.ops, node.comparators):
            plain = isinstance(right, ast.Constant) and right.value in (None, True, False)
            if isinstance(sign, (ast.Is, ast.IsNot)) and not plain:
                faults.append("L20 is")
    if isinstance(node, ast.Constant) and not isinstance(node.value, (int, str, bool)) and node.value is not None:
        faults.append("L7 value")
    if isinstance(node, ast.ListComp) and (len(node.generators) > 1 or len(node.generators[0].ifs) > 1):
        faults.append("L7 comprehension")
    return faults


def called_name(node):
    return node.func.id if isinstance(node, ast.Call) and isinstance(node.func, ast.Name) else None


def call_faults(tree):
    faults = []
    walked = []
    for node in ast.walk(tree):
        name = called_name(node)
        if isinstance(node, (ast.For, ast.comprehension)):
            walked.append(node.iter)
        if name in WALKERS and node.args:
            if name not in ("min", "max") or len(node.args) + len(node.keywords) == 1:
                walked.append(node.args[0])
        if name in BUILT_IN:
            given = [keyword.arg for keyword in node.keywords]
            faults += ["L22 keyword at " + name for word in given if word not in KEYWORDS.get(name, [])]
    for node in ast.walk(tree):
        if called_name(node) in WALKED and not any(node is other for other in walked):
            faults.append("L23 " + called_name(node))
    return faults


def stored_names(tree):
    for node in ast.walk(tree):
        if isinstance(node, ast.arg):
            yield node.arg
        elif isinstance(node, ast.Name) and isinstance(node.ctx, ast.Store):
            yield node.id


def tree_faults(tree):
    faults = top_faults(tree) + call_faults(tree)
    forbidden = imported(tree) + own_classes(tree) + dir(builtins)
    faults += ["L15 local " + name for name in stored_names(tree) if name in forbidden]
    for node in ast.walk(tree):
        kind = node.__class__.__name__
        if kind not in NODES:
            faults.append("L6 or L7 " + kind)
        if isinstance(node, (ast.FunctionDef, ast.Lambda)):
            faults += def_faults(node)
        if isinstance(node, ast.ClassDef):
            faults += class_faults(node)
        if isinstance(node, (ast.FunctionDef, ast.ClassDef)):
            faults += name_faults(node.name)
        if isinstance(node, ast.Name):
            faults += name_faults(node.id)
            if node.id in dir(builtins) and node.id not in BUILT_IN:
                faults.append("L8 " + node.id)
        if isinstance(node, ast.Attribute):
            faults += name_faults(node.attr)
        faults += statement_faults(node)
    return faults


def files():
    return sorted(path for path in PACKAGE.rglob("*") if "__pycache__" not in path.parts)


def trees():
    return {path.name: ast.parse(path.read_text(encoding="utf-8")) for path in files()}


class TestLanguage(unittest.TestCase):
    def test_files(self):
        self.assertIn("__init__.py", [path.name for path in files()])
        for path in files():
            self.assertRegex(path.name, r"^[a-z][a-z0-9_]*\.py$|^__init__\.py$")

    def test_each_file(self):
        for path in files():
            text = path.read_text(encoding="utf-8")
            self.assertEqual(text_faults(text) + tree_faults(ast.parse(text)), [], path.name)

    def test_imports_name_the_file_that_defines_and_go_round_in_no_ring(self):
        drawn = {}
        for name, tree in trees().items():
            drawn[name] = []
            for node in tree.body:
                if isinstance(node, ast.ImportFrom):
                    other = node.module.partition(".")[2] + ".py"
                    drawn[name].append(other)
                    made = made_at_the_top(trees()[other])
                    for alias in node.names:
                        self.assertIn(alias.name, made, (name, other))
        while drawn:
            free = [name for name in drawn if not any(other in drawn for other in drawn[name])]
            self.assertTrue(free, drawn)
            for name in free:
                drawn.pop(name)

    def test_methods_and_values(self):
        methods = []
        values = []
        used = []
        for tree in trees().values():
            for node in ast.walk(tree):
                if isinstance(node, ast.ClassDef):
                    methods += [part.name for part in node.body if isinstance(part, ast.FunctionDef)]
                if isinstance(node, ast.Attribute):
                    used.append(node.attr)
                    if isinstance(node.ctx, ast.Store):
                        values.append(node.attr)
        own = [name for kind in (int, str, list, dict, set, bytes, tuple) for name in dir(kind)]
        self.assertEqual([name for name in values if name in methods or name in own], [])
        known = methods + values + METHODS + list(SPECIAL)
        self.assertEqual([name for name in used if name not in known], [])

    def test_the_walk_sees_faults(self):
        wrong = [
            "a = 1.5", "import os", "from math import gcd", "def f(*a):\n    pass", "def f():\n    a, b = 1, 2",
            "def f():\n    a = b = 2", "def f(x):\n    return x / 2", "def f():\n    return open",
            "class A:\n    b = 1", "def f(len):\n    pass", "def f():\n    return {x for x in ()}",
            "def f(x):\n    return x is 3", "def _f():\n    pass", "a = 1\na = 2", "def f(x):\n    yield x",
            "def f(x):\n    assert x", "def f(x):\n    return map(x)", "def f(x):\n    '''Why'''",
            "def f(x):\n    return max(range(x), key=f)", "def f(x):\n    y = zip(x, x)",
            "def f(x):\n    return int(x, base=8)", "a = 10 ** 3", "a = list()",
        ]
        for text in wrong:
            self.assertNotEqual(tree_faults(ast.parse(text)), [], text)
        for text in ("# a type", "x" * 121, "\t", "# \u00e9", "\n" * 401):
            self.assertNotEqual(text_faults(text), [], text)


if __name__ == "__main__":
    unittest.main()
