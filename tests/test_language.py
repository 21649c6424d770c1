"""The package keeps to the part of Python that it is to be written in.

Looked at are those rules that can be told by a short look at the written code:
files, imports, statements, names, methods, sizes and signs (parts of L1, L2, L4, L6 to
L8, L10, L12, L14 to L18, L20, L23, L25, L27). All else in them is left to the reader.
"""

import ast
import builtins
import pathlib
import re
import unittest

PACKAGE = pathlib.Path(__file__).resolve().parent.parent / "meetdesks"

OWN_NAMES = set("""
    len range enumerate zip min max sum abs sorted reversed int str bool bytes list tuple dict set isinstance ord repr
    any all divmod Exception ValueError TypeError KeyError IndexError LookupError ZeroDivisionError ArithmeticError
    OverflowError RuntimeError NotImplementedError AttributeError StopIteration
""".split())

DUNDERS = {"__init__", "__eq__", "__repr__", "__str__", "__len__"}

BARRED_NODES = (
    ast.With, ast.AsyncWith, ast.AsyncFor, ast.AsyncFunctionDef, ast.Await, ast.Yield, ast.YieldFrom, ast.Global,
    ast.Nonlocal, ast.Match, ast.NamedExpr, ast.GeneratorExp, ast.Div, ast.MatMult, ast.Import,
)

BARRED_WORDS = re.compile(
    r"\b(type|typing|typing_extensions|enum|Enum|IntEnum|StrEnum|Flag|IntFlag|Generic|Protocol|ABC|ABCMeta|namedtuple"
    r"|NamedTuple|TypedDict|TYPE_CHECKING|abstractmethod)\b|dataclass|overload|contextmanager"
)

# The first list of methods of Python's own values, and what a kept set has.
METHODS = set("""
    append clear copy count endswith extend find get index insert isalnum isalpha isdigit islower isspace isupper items
    join keys ljust lower lstrip partition pop remove replace reverse rfind rjust rpartition rsplit rstrip setdefault
    split splitlines startswith strip update upper values zfill bit_length add discard sort
""".split())

PLAIN = re.compile(r"[A-Za-z][A-Za-z0-9_]*\Z")


def defined_names(tree):
    """The names that a file's top gives itself, without those it draws in."""
    names = set()
    for node in tree.body:
        if isinstance(node, (ast.FunctionDef, ast.ClassDef)):
            names.add(node.name)
        if isinstance(node, ast.Assign):
            names.update(target.id for target in node.targets)
    return names


def bound_names(node):
    if isinstance(node, (ast.FunctionDef, ast.ClassDef)):
        return [node.name]
    if isinstance(node, ast.arg):
        return [node.arg]
    if isinstance(node, ast.Name) and isinstance(node.ctx, ast.Store):
        return [node.id]
    if isinstance(node, ast.Attribute) and isinstance(node.ctx, ast.Store):
        return [node.attr]
    return []


def text_faults(text):
    faults = []
    lines = text.split("\n")
    if len(lines) - 1 > 400:
        faults.append("L10 file")
    for number, line in enumerate(lines, 1):
        if len(line) > 120:
            faults.append(f"L10 line {number}")
        if re.search(r"[^ -~]", line):
            faults.append(f"L14 line {number}")
        if BARRED_WORDS.search(line):
            faults.append(f"L17 line {number}")
    return faults


def node_faults(node):
    at = getattr(node, "lineno", 0)
    faults = []
    if isinstance(node, BARRED_NODES):
        faults.append(f"L6 or L7 line {at}")
    if isinstance(node, (ast.For, ast.While)) and node.orelse:
        faults.append(f"L6 line {at}")
    if isinstance(node, (ast.FunctionDef, ast.ClassDef)) and node.decorator_list:
        faults.append(f"L4 line {at}")
    if isinstance(node, ast.FunctionDef) and node.end_lineno - at + 1 > 40:
        faults.append(f"L10 line {at}")
    if isinstance(node, ast.arguments) and (node.vararg or node.kwarg or node.posonlyargs):
        faults.append("L4 parameters")
    if isinstance(node, ast.Constant) and isinstance(node.value, (float, complex)):
        faults.append(f"L7 line {at}")
    if isinstance(node, ast.Constant) and isinstance(node.value, str) and "%" in node.value:
        faults.append(f"L27 line {at}")
    if isinstance(node, ast.Name) and hasattr(builtins, node.id):
        if node.id not in OWN_NAMES or not isinstance(node.ctx, ast.Load):
            faults.append(f"L8 line {at}")
    for name in bound_names(node):
        if not PLAIN.match(name) and name not in DUNDERS:
            faults.append(f"L12 line {at}")
    return faults


def local_faults(tree):
    """Parameters and locals that are called like a class or an import of the file, or like Python's own."""
    taken = set(dir(builtins)) | {node.name for node in tree.body if isinstance(node, ast.ClassDef)}
    taken |= {alias.name for node in tree.body if isinstance(node, ast.ImportFrom) for alias in node.names}
    faults = []
    for top in tree.body:
        if isinstance(top, (ast.FunctionDef, ast.ClassDef)):
            for node in ast.walk(top):
                is_local = node is not top and isinstance(node, (ast.FunctionDef, ast.arg, ast.Name))
                if is_local and any(name in taken for name in bound_names(node)):
                    faults.append(f"L15 line {node.lineno}")
    return faults


def is_faults(node):
    if not isinstance(node, ast.Compare):
        return []
    sides = [node.left] + node.comparators
    for at, sign in enumerate(node.ops):
        plain = [isinstance(side, ast.Constant) and side.value in (None, True, False) for side in sides[at:at + 2]]
        if isinstance(sign, (ast.Is, ast.IsNot)) and not any(plain):
            return [f"L20 line {node.lineno}"]
    return []


def kept_faults(node):
    """What is to be walked on the spot, but is kept or given back."""
    if not isinstance(node, (ast.Assign, ast.Return)) or not isinstance(node.value, ast.Call):
        return []
    called = node.value.func
    named = isinstance(called, ast.Name) and called.id in ("zip", "enumerate", "reversed", "range")
    asked = isinstance(called, ast.Attribute) and called.attr in ("items", "keys", "values")
    return [f"L23 line {node.lineno}"] if named or asked else []


def methods_and_values(trees):
    """The names that classes have as methods, and those that are given as values of objects."""
    methods, values = set(), set()
    for tree in trees:
        for node in ast.walk(tree):
            if isinstance(node, ast.ClassDef):
                methods.update(part.name for part in node.body if isinstance(part, ast.FunctionDef))
            if isinstance(node, ast.Attribute) and isinstance(node.ctx, ast.Store):
                values.add(node.attr)
    return methods, values


def attribute_faults(trees):
    """Names that are a method here and a value there, and those that no class of the package gives."""
    methods, values = methods_and_values(trees)
    faults = [f"L18 {name}" for name in sorted(methods & values)]
    for tree in trees:
        called = {id(node.func) for node in ast.walk(tree) if isinstance(node, ast.Call)}
        for node in ast.walk(tree):
            given = methods | METHODS if id(node) in called else values
            if isinstance(node, ast.Attribute) and node.attr not in given:
                faults.append(f"L18 or L25 {node.attr}")
    return faults


def import_faults(node, defined):
    if not isinstance(node, ast.ImportFrom):
        return []
    names = defined.get(node.module, set())
    if node.level or any(alias.name not in names for alias in node.names):
        return [f"L2 or L16 line {node.lineno}"]
    return []


def code_faults(text, defined):
    faults = text_faults(text)
    tree = ast.parse(text)
    faults += local_faults(tree)
    for node in ast.walk(tree):
        faults += node_faults(node) + is_faults(node) + kept_faults(node)
        faults += import_faults(node, defined)
    return faults


def drawn_from(tree):
    return {node.module for node in ast.walk(tree) if isinstance(node, ast.ImportFrom)}


def has_ring(draws):
    """Whether files draw from one another, in whatever many steps."""
    left = dict(draws)
    while left:
        done = [module for module in left if not any(other in left for other in left[module])]
        if not done:
            return True
        for module in done:
            del left[module]
    return False


class Language(unittest.TestCase):
    def setUp(self):
        self.files = [path for path in sorted(PACKAGE.rglob("*")) if path.parent.name != "__pycache__"]
        self.files = [path for path in self.files if path.name != "__pycache__"]
        self.texts = {f"meetdesks.{path.stem}": path.read_text(encoding="utf-8") for path in self.files}
        self.defined = {module: defined_names(ast.parse(text)) for module, text in self.texts.items()}

    def test_files(self):
        self.assertIn(PACKAGE / "__init__.py", self.files)
        for path in self.files:
            self.assertRegex(path.name, r"\A([a-z][a-z0-9_]*|__init__|__main__)\.py\Z")
            self.assertNotRegex(path.name, r"\A(test|tests|testing|test_.*|law_.*|site|conftest)\.py\Z")

    def test_code(self):
        for module, text in self.texts.items():
            with self.subTest(module):
                self.assertEqual(code_faults(text, self.defined), [])

    def test_methods_and_values(self):
        self.assertEqual(attribute_faults([ast.parse(text) for text in self.texts.values()]), [])

    def test_no_two_files_draw_from_one_another(self):
        self.assertFalse(has_ring({module: drawn_from(ast.parse(text)) for module, text in self.texts.items()}))


class TheLookItself(unittest.TestCase):
    def test_faults_are_seen(self):
        for text in (
            "import os", "from os import path", "from .errors import Twice", "x = 1 / 2", "x = 0.5", "x = open",
            "def f(*xs):\n    return xs", "def f():\n    yield 1", "def f(xs):\n    return any(x for x in xs)",
            "_x = 1", "x = '\u00e9'", "x = '%'", "# of any type", "len = 3", "x = 1" + " " * 120,
            "def f():\n" + "    x = 1\n" * 40, "x = 1\n" * 401, "from meetdesks.errors import nothing",
            "def f(map):\n    return map", "class C:\n    pass\n\n\ndef f():\n    C = 1\n",
            "def f(x):\n    return x is f", "def f(x):\n    y = enumerate(x)\n    return y",
            "def f(x):\n    return x.items()",
            "from meetdesks.errors import Twice\n\n\ndef f(Twice):\n    return Twice\n",
        ):
            with self.subTest(text[:60]):
                self.assertNotEqual(code_faults(text, {"meetdesks.errors": {"Twice"}}), [])

    def test_plain_code_is_let_by(self):
        text = "from meetdesks.errors import Twice\n\n\ndef f(x):\n    raise Twice(x)\n"
        self.assertEqual(code_faults(text, {"meetdesks.errors": {"Twice"}}), [])

    def test_methods_and_values_are_seen(self):
        given = "class C:\n    def __init__(self):\n        self.x = 1\n"
        self.assertEqual(attribute_faults([ast.parse(given + "\n    def f(self):\n        return self.x\n")]), [])
        for more in ("    def x(self):\n        return 1\n", "    def f(self):\n        return self.y\n",
                     "    def f(self, y):\n        return y.encode()\n"):
            self.assertNotEqual(attribute_faults([ast.parse(given + "\n" + more)]), [])

    def test_rings_are_seen(self):
        self.assertTrue(has_ring({"a": {"b"}, "b": {"c"}, "c": {"a"}}))
        self.assertFalse(has_ring({"a": {"b", "c"}, "b": {"c"}, "c": set()}))


if __name__ == "__main__":
    unittest.main()
