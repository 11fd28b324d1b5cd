"""The package's files keep to the small part of Python that the program is written in.

What a glance at the syntax can tell is checked here, rule by rule; the rest is for the reader.
"""

import ast
import builtins
import pathlib
import re
import unittest

FOLDER = pathlib.Path(__file__).resolve().parent.parent / "dustwalk"

NODES = tuple(getattr(ast, name) for name in """
    Module FunctionDef ClassDef Lambda arguments arg Return Assign AugAssign For While If Raise Try
    ExceptHandler ImportFrom alias Expr Pass Break Continue BoolOp And Or BinOp Add Sub Mult FloorDiv
    Mod Pow BitAnd BitOr BitXor LShift RShift UnaryOp Invert Not UAdd USub IfExp Dict Set List Tuple
    ListComp comprehension Compare Eq NotEq Lt LtE Gt GtE Is IsNot In NotIn Call keyword JoinedStr
    FormattedValue Constant Attribute Subscript Name Slice Load Store
""".split())

OWN_NAMES = """
    len range enumerate zip min max sum abs sorted reversed int str bool list tuple dict set frozenset
    isinstance ord repr any all divmod Exception ValueError TypeError KeyError IndexError LookupError
    ZeroDivisionError ArithmeticError OverflowError RuntimeError NotImplementedError AttributeError
    StopIteration
""".split()

METHODS = """
    append clear copy count endswith extend find get index insert isalnum isalpha isdigit islower isspace
    isupper items join keys ljust lower lstrip partition pop remove replace reverse rfind rjust rpartition
    rsplit rstrip setdefault split splitlines startswith strip update upper values zfill bit_length
""".split()

DUNDERS = ("__init__", "__eq__", "__repr__", "__str__", "__len__")

WORDS = """
    type typing typing_extensions enum Enum IntEnum StrEnum Flag IntFlag Generic Protocol ABC ABCMeta
    namedtuple NamedTuple TypedDict TYPE_CHECKING abstractmethod
""".split()

KEYWORDS = {"sorted": ("key", "reverse"), "min": ("key", "default"), "max": ("key", "default"),
            "sum": ("start",), "enumerate": ("start",), "zip": ("strict",)}

WALKED = "zip enumerate reversed range".split()
WALKERS = "list tuple dict sorted sum any all enumerate zip min max join".split()

UNUSED = "register mro elements open input version_info with_traceback add_note format format_map".split()


def bound_names(tree):
    """Every name that a file binds: defs, classes, parameters, names assigned to, names drawn in."""
    for node in ast.walk(tree):
        if isinstance(node, (ast.FunctionDef, ast.ClassDef)):
            yield node.name
        elif isinstance(node, ast.arg):
            yield node.arg
        elif isinstance(node, ast.Name) and isinstance(node.ctx, ast.Store):
            yield node.id
        elif isinstance(node, ast.alias):
            yield node.asname or node.name


def top_names(tree):
    for node in tree.body:
        if isinstance(node, (ast.FunctionDef, ast.ClassDef)):
            yield node.name
        elif isinstance(node, ast.Assign):
            yield node.targets[0].id


def file_faults(text):
    """The rules that a file's text breaks, of L2 to L28, as far as its own syntax shows them."""
    tree = ast.parse(text)
    faults = []
    lines = text.splitlines()
    if len(lines) > 400 or any(len(line) > 120 or "\t" in line for line in lines):
        faults.append("L10")
    if not re.fullmatch(r"[ -~\n]*", text):
        faults.append("L14")
    if any(re.search(rf"\b{word}\b", text) for word in WORDS) or re.search("dataclass|overload|contextmanager", text):
        faults.append("L17")
    for node in tree.body:
        if not isinstance(node, (ast.Expr, ast.ImportFrom, ast.FunctionDef, ast.ClassDef, ast.Assign)):
            faults.append("L3")
    own = list(top_names(tree))
    if len(own) != len(set(own)):
        faults.append("L15")
    for node in ast.walk(tree):
        faults.extend(node_faults(node))
    faults.extend(name_faults(tree))
    faults.extend(shadow_faults(tree))
    faults.extend(walk_faults(tree))
    return faults


def shadow_faults(tree):
    """L15: no parameter and no local is called like a class or an import of its file."""
    taken = {node.name for node in ast.walk(tree) if isinstance(node, ast.ClassDef)}
    taken |= {node.asname or node.name for node in ast.walk(tree) if isinstance(node, ast.alias)}
    for node in ast.walk(tree):
        if isinstance(node, ast.arg) and node.arg in taken:
            yield f"L15 {node.arg}"
        if isinstance(node, ast.Name) and isinstance(node.ctx, ast.Store) and node.id in taken:
            yield f"L15 {node.id}"


def called_name(node):
    """The name by which something is called, where a node is a call."""
    if not isinstance(node, ast.Call):
        return None
    return node.func.attr if isinstance(node.func, ast.Attribute) else getattr(node.func, "id", None)


def walk_faults(tree):
    """L22 to L24: Python's own are called, what is walked is walked at once, and no set is kept."""
    fit = set()
    for node in ast.walk(tree):
        if isinstance(node, (ast.For, ast.comprehension)):
            fit.add(node.iter)
        if called_name(node) in WALKERS and node.args:
            fit.add(node.args[0])
        if isinstance(node, ast.Call):
            fit.add(node.func)
            if called_name(node) == "isinstance":
                fit.update(ast.walk(node.args[1]))
        if isinstance(node, ast.keyword) and node.arg == "key":
            fit.add(node.value)
        if isinstance(node, (ast.ExceptHandler, ast.ClassDef)):
            for part in [node.type] if isinstance(node, ast.ExceptHandler) else node.bases:
                fit.update(ast.walk(part))
    for node in ast.walk(tree):
        walked = called_name(node) in WALKED or (
            called_name(node) in ("items", "keys", "values") and isinstance(node.func, ast.Attribute))
        if walked and node not in fit:
            yield "L23"
        if isinstance(node, ast.Name) and node.id in OWN_NAMES and node not in fit:
            yield f"L22 {node.id}"
        if isinstance(node, ast.Attribute) and node.attr in METHODS and isinstance(node.ctx, ast.Load) \
                and node not in fit and node.attr != "find":
            yield f"L25 {node.attr}"
        # A set has its few places, too; the program has no need of one.
        if called_name(node) in ("set", "frozenset") or isinstance(node, ast.Set):
            yield "L24"


def name_faults(tree):
    faults = []
    bound = set(bound_names(tree))
    for name in bound:
        if name not in DUNDERS and (name.startswith("_") or not name.isascii()):
            faults.append(f"L12 {name}")
    called = {a.name for n in ast.walk(tree) if isinstance(n, ast.ClassDef) for a in n.body
              if isinstance(a, ast.FunctionDef)}
    for name in bound - called:
        if hasattr(builtins, name):
            faults.append(f"L15 {name}")
    for node in ast.walk(tree):
        if isinstance(node, ast.Name) and isinstance(node.ctx, ast.Load):
            if node.id not in bound and node.id not in OWN_NAMES:
                faults.append(f"L8 {node.id}")
    return faults


def node_faults(node):
    if not isinstance(node, NODES):
        yield f"L6 or L7 {node.__class__.__name__}"
    if isinstance(node, ast.Constant) and not isinstance(node.value, (int, str, bool, type(None))):
        yield "L7"
    if isinstance(node, ast.Constant) and isinstance(node.value, str) and "%" in node.value:
        yield "L27"
    if isinstance(node, (ast.Name, ast.Attribute)) and (getattr(node, "id", None) or node.attr) in UNUSED:
        yield "L17"
    if isinstance(node, (ast.FunctionDef, ast.ClassDef)) and node.decorator_list:
        yield "L4 or L5"
    if isinstance(node, ast.FunctionDef):
        taken = node.args
        if taken.vararg or taken.kwarg or taken.kwonlyargs or taken.posonlyargs:
            yield "L4"
        if node.end_lineno - node.lineno >= 40:
            yield "L10"
    if isinstance(node, ast.ClassDef):
        if len(node.bases) > 1 or node.keywords:
            yield "L5"
        for part in node.body:
            if not isinstance(part, (ast.FunctionDef, ast.Pass)) and not (
                    isinstance(part, ast.Expr) and isinstance(part.value, ast.Constant)):
                yield "L5"
    if isinstance(node, ast.Assign) and len(node.targets) != 1:
        yield "L6"
    if isinstance(node, (ast.For, ast.While)) and node.orelse:
        yield "L6"
    if isinstance(node, ast.Try) and node.finalbody:
        yield "L6"
    if isinstance(node, ast.ListComp) and (len(node.generators) != 1 or len(node.generators[0].ifs) > 1):
        yield "L7"
    if isinstance(node, ast.FormattedValue) and not isinstance(node.value, ast.Name):
        yield "L7"
    if isinstance(node, ast.Compare):
        for sign, right in zip(node.ops, node.comparators):
            if isinstance(sign, (ast.Is, ast.IsNot)) and not (
                    isinstance(right, ast.Constant) and isinstance(right.value, (bool, type(None)))):
                yield "L20"
    if isinstance(node, ast.ExceptHandler) and (
            node.type is None or "Exception" in ast.dump(node.type) or "TypeError" in ast.dump(node.type)):
        yield "L19"
    if called_name(node) in OWN_NAMES + METHODS:
        if any(word.arg not in KEYWORDS.get(called_name(node), ()) for word in node.keywords):
            yield "L22"
    if isinstance(node, ast.arg) and node.annotation or isinstance(node, ast.FunctionDef) and node.returns:
        yield "L21"
    if isinstance(node, ast.BinOp) and isinstance(node.op, ast.Pow) and not isinstance(node.right, ast.Constant):
        yield "L27"
    if isinstance(node, ast.ImportFrom) and (node.level or not node.module.startswith("dustwalk.")):
        yield "L2"


class TestLanguage(unittest.TestCase):
    def setUp(self):
        self.trees = {}
        for path in sorted(FOLDER.glob("*.py")):
            self.trees[path.stem] = ast.parse(path.read_text(encoding="utf-8"))

    def test_files(self):
        for path in FOLDER.iterdir():
            if path.name != "__pycache__":
                self.assertRegex(path.name, r"\A[a-z_][a-z0-9_]*\.py\Z")
        self.assertIn("__init__", self.trees)

    def test_each_file(self):
        for path in sorted(FOLDER.glob("*.py")):
            self.assertEqual(file_faults(path.read_text(encoding="utf-8")), [], path.name)

    def test_names_are_drawn_from_the_file_that_defines_them(self):
        for name, tree in self.trees.items():
            for node in ast.walk(tree):
                if isinstance(node, ast.ImportFrom):
                    self.assertIn(node, tree.body, name)
                    there = list(top_names(self.trees[node.module.removeprefix("dustwalk.")]))
                    for drawn in node.names:
                        self.assertIn(drawn.name, there, name)

    def test_no_two_files_draw_from_one_another(self):
        drawn = {name: {node.module.removeprefix("dustwalk.") for node in tree.body
                        if isinstance(node, ast.ImportFrom)} for name, tree in self.trees.items()}
        while drawn:
            ends = [name for name in drawn if not drawn[name] & set(drawn)]
            self.assertTrue(ends, drawn)
            for name in ends:
                drawn.pop(name)

    def test_methods_and_values(self):
        methods, values, asked = set(), set(), set()
        for tree in self.trees.values():
            for node in ast.walk(tree):
                if isinstance(node, ast.ClassDef):
                    methods |= {part.name for part in node.body if isinstance(part, ast.FunctionDef)}
                if isinstance(node, ast.Attribute):
                    (values if isinstance(node.ctx, ast.Store) else asked).add(node.attr)
        self.assertEqual(methods & values, set())
        self.assertEqual(asked - methods - values - set(METHODS) - set(DUNDERS), set())

    def test_what_is_outside_is_seen(self):
        for text in (
            "import os\n", "from .cells import DOCK\n", "x = 1.5\n", "x = 1\nx = 2\n", "print(1)\n",
            "def f(*a):\n    return a\n", "def f(list):\n    return list\n", "def f(x):\n    return x is 1\n",
            "def f(x):\n    return {y: y for y in x}\n", "def f(_x):\n    return 1\n", "# a type\n",
            "def f(x):\n    with x:\n        pass\n", "def f(x):\n    a = b = x\n    return a\n",
            "def f(x):\n    y = zip(x, x)\n    return list(y)\n", "def f(x):\n    return reversed(range(x))\n",
            "def f(x):\n    return x(len)\n", "def f(x):\n    return x.append\n", "def f(x):\n    return set(x)\n",
            "from dustwalk.cells import DOCK\ndef f(DOCK):\n    return 1\n", "def f(x: int):\n    return x\n",
            "def f(x):\n    return 2 ** x\n", "def f(x):\n    return len(obj=x)\n",
            "def f(x):\n    return x.items()\n", "class A:\n    x = 1\n", "x = '%'\n", "def f():\n" + "    pass\n" * 40, "x = '" + "a" * 120 + "'\n",
        ):
            self.assertNotEqual(file_faults(text), [], text)


if __name__ == "__main__":
    unittest.main()
