"""The package's own files keep to the small part of Python that they are written in.

Of the rules of ../shared/LANGUAGE.md these are looked at, some of them only in part: L1 to L8, L10, L12, L14 to L17,
L20, L23 to L25, L27. The others are kept by reading.
"""

import ast
import builtins
import pathlib
import re
import unittest

PACKAGE = pathlib.Path(__file__).resolve().parent.parent / "leastrow"

NODES = """
    Module FunctionDef ClassDef ImportFrom alias arguments arg Lambda Assign AugAssign If While For Return Break
    Continue Pass Raise Try ExceptHandler Expr Name Load Store Constant List Tuple Dict Set BinOp UnaryOp BoolOp
    Compare IfExp Call keyword Attribute Subscript Slice ListComp comprehension JoinedStr FormattedValue
    Add Sub Mult FloorDiv Mod Pow BitAnd BitOr BitXor LShift RShift Invert USub UAdd Not And Or
    Eq NotEq Lt LtE Gt GtE In NotIn Is IsNot
""".split()

PYTHONS = """
    len range enumerate zip min max sum abs sorted reversed int str bool list tuple dict set frozenset isinstance
    ord repr any all divmod Exception ValueError TypeError KeyError IndexError LookupError ZeroDivisionError
    ArithmeticError OverflowError RuntimeError NotImplementedError AttributeError StopIteration
""".split()

METHODS = """
    append clear copy count endswith extend find get index insert isalnum isalpha isdigit islower isspace isupper
    items join keys ljust lower lstrip partition pop remove replace reverse rfind rjust rpartition rsplit rstrip
    setdefault split splitlines startswith strip update upper values zfill bit_length
""".split()

OUT = """
    register mro elements open input version_info with_traceback add_note attrgetter breakpoint builtins compile
    copyright credits delattr dir eval exec exit gc getattr globals hasattr help id importlib license locals
    methodcaller os quit setattr super vars sys
""".split()

OUT_WORDS = re.compile(
    r"\b(type|typing|typing_extensions|enum|Enum|IntEnum|StrEnum|Flag|IntFlag|Generic|Protocol|ABC|ABCMeta|namedtuple"
    r"|NamedTuple|TypedDict|TYPE_CHECKING|abstractmethod)\b|dataclass|overload|contextmanager"
)

WALKED = ["zip", "enumerate", "reversed", "range", "items", "keys", "values"]
WALKERS = ["list", "tuple", "dict", "sorted", "sum", "any", "all", "enumerate", "zip", "min", "max", "join"]

DUNDERS = ["__init__", "__eq__", "__repr__", "__str__", "__len__"]


def of_text(text):
    faults = [f"L14 sign {sign!r}" for sign in sorted(set(text)) if not (" " <= sign <= "~" or sign == "\n")]
    lines = text.split("\n")
    faults += [f"L10 line {line}" for line in lines if len(line) > 120]
    if len(lines) > 400:
        faults.append("L10 file")
    return faults + [f"L17 word {found.group()}" for found in OUT_WORDS.finditer(text)]


def bound_names(tree):
    names = []
    for node in ast.walk(tree):
        if isinstance(node, (ast.FunctionDef, ast.ClassDef)):
            names.append(node.name)
        if isinstance(node, ast.arg):
            names.append(node.arg)
        if isinstance(node, ast.Name) and isinstance(node.ctx, ast.Store):
            names.append(node.id)
        if isinstance(node, ast.ExceptHandler) and node.name:
            names.append(node.name)
    return names


def of_names(tree):
    faults = []
    methods = [part for node in ast.walk(tree) if isinstance(node, ast.ClassDef) for part in node.body]
    as_methods = [part.name for part in methods if isinstance(part, ast.FunctionDef)]
    for name in bound_names(tree):
        if name in as_methods:
            continue
        if not re.fullmatch("[A-Za-z][A-Za-z0-9_]*", name):
            faults.append(f"L12 name {name}")
        if hasattr(builtins, name) or name in OUT:
            faults.append(f"L15 name {name}")
    for name in as_methods:
        if name.startswith("_") and name not in DUNDERS:
            faults.append(f"L5 method {name}")
    return faults


def of_top(tree):
    faults = []
    names = []
    for node in tree.body:
        if isinstance(node, (ast.FunctionDef, ast.ClassDef)):
            names.append(node.name)
        elif isinstance(node, ast.Assign):
            names += [target.id for target in node.targets]
        elif isinstance(node, ast.ImportFrom):
            names += [alias.name for alias in node.names]
        elif not (node is tree.body[0] and ast.get_docstring(tree)):
            faults.append(f"L3 row {node.lineno}")
    inner = [node for top in tree.body for node in ast.walk(top) if node is not top]
    faults += ["L15 class" for node in inner if isinstance(node, ast.ClassDef)]
    faults += ["L2 import" for node in inner if isinstance(node, ast.ImportFrom)]
    return faults + [f"L15 twice {name}" for name in sorted(set(names)) if names.count(name) > 1]


def of_node(node):
    kind = node.__class__.__name__
    if kind not in NODES:
        yield f"L6, L7 {kind}"
    if isinstance(node, (ast.FunctionDef, ast.ClassDef)) and node.decorator_list:
        yield "L4, L5 decorator"
    if isinstance(node, ast.FunctionDef) and node.end_lineno - node.lineno >= 40:
        yield f"L10 function {node.name}"
    if isinstance(node, ast.arguments) and (node.vararg or node.kwarg or node.kwonlyargs or node.posonlyargs):
        yield "L4 parameters"
    if isinstance(node, ast.ClassDef) and len(node.bases) > 1:
        yield "L5 bases"
    if isinstance(node, ast.ClassDef):
        for part in node.body:
            if not isinstance(part, (ast.FunctionDef, ast.Pass)):
                yield "L5 body"
    if isinstance(node, ast.Assign) and (len(node.targets) > 1 or isinstance(node.targets[0], ast.Tuple)):
        yield "L6 targets"
    if isinstance(node, (ast.For, ast.While)) and node.orelse:
        yield "L6 else"
    if isinstance(node, ast.ListComp) and (len(node.generators) > 1 or len(node.generators[0].ifs) > 1):
        yield "L7 comprehension"
    if isinstance(node, ast.FormattedValue) and not isinstance(node.value, ast.Name):
        yield "L7 f-string"
    if isinstance(node, ast.Constant) and isinstance(node.value, (float, complex, bytes)):
        yield "L7 value"
    if isinstance(node, ast.Constant) and isinstance(node.value, str) and chr(37) in node.value:
        yield "L27 percent sign"
    if isinstance(node, ast.Name) and isinstance(node.ctx, ast.Load):
        if hasattr(builtins, node.id) and node.id not in PYTHONS or node.id in OUT:
            yield f"L8 {node.id}"
    if isinstance(node, ast.BinOp) and isinstance(node.op, ast.Pow):
        if not (isinstance(node.right, ast.Constant) and 0 <= node.right.value <= 64):
            yield "L27 power"
    if isinstance(node, ast.Compare):
        for sign, right in zip(node.ops, node.comparators):
            if isinstance(sign, (ast.Is, ast.IsNot)) and ast.unparse(right) not in ("None", "True", "False"):
                yield "L20 is"


def called(node):
    """The name of what is called, of a function or a method; None where nothing is called."""
    if not isinstance(node, ast.Call):
        return None
    return node.func.attr if isinstance(node.func, ast.Attribute) else ast.unparse(node.func)


def of_walks_and_sets(tree):
    above = {below: node for node in ast.walk(tree) for below in ast.iter_child_nodes(node)}
    for node in ast.walk(tree):
        over = above.get(node)
        if called(node) in WALKED:
            behind_in = isinstance(over, (ast.For, ast.comprehension)) and over.iter is node
            if not behind_in and not (called(over) in WALKERS and node in over.args):
                yield f"L23 {called(node)}"
        if called(node) in ["set", "frozenset"] or isinstance(node, ast.Set):
            while isinstance(over, ast.BinOp):
                over = above[over]
            if not isinstance(over, ast.Compare) and not (called(over) in ["sorted", "len"] and not over.keywords):
                yield "L24 set"


def of_imported_names(tree):
    rows = [node for node in tree.body if isinstance(node, ast.ImportFrom)]
    imported = [alias.name for row in rows for alias in row.names]
    return [f"L15 name {name}" for name in bound_names(tree) if name in imported]


def of_imports(tree):
    for node in ast.walk(tree):
        if not isinstance(node, ast.ImportFrom):
            continue
        module = node.module or ""
        path = PACKAGE / (module.partition(".")[2] + ".py")
        if node.level or not module.startswith("leastrow.") or not path.exists():
            yield f"L2 {module}"
            continue
        tops = [top.name for top in ast.parse(path.read_text()).body if isinstance(top, (ast.FunctionDef, ast.ClassDef))]
        for alias in node.names:
            if alias.asname or alias.name not in tops and not alias.name.isupper():
                yield f"L16 {alias.name}"


def own_attributes(trees):
    names = []
    for node in [node for tree in trees for node in ast.walk(tree)]:
        if isinstance(node, ast.ClassDef):
            names += [part.name for part in node.body if isinstance(part, ast.FunctionDef)]
        if isinstance(node, ast.Attribute) and isinstance(node.ctx, ast.Store):
            names.append(node.attr)
    return names


def of_attributes(tree, own):
    for node in ast.walk(tree):
        if isinstance(node, ast.Attribute) and node.attr not in METHODS + own:
            yield f"L25 {node.attr}"


def faults_of(text, own=()):
    tree = ast.parse(text)
    faults = of_text(text) + of_names(tree) + of_top(tree) + list(of_imports(tree))
    faults += list(of_attributes(tree, list(own))) + list(of_walks_and_sets(tree)) + of_imported_names(tree)
    return faults + [fault for node in ast.walk(tree) for fault in of_node(node)]


class Language(unittest.TestCase):
    def files(self):
        return sorted(path for path in PACKAGE.iterdir() if path.name != "__pycache__")

    def test_the_folder_holds_python_files_alone(self):
        for path in self.files():
            self.assertRegex(path.name, "^([a-z][a-z0-9_]*|__init__|__main__)[.]py$")
            self.assertTrue(path.is_file())

    def test_every_file_keeps_to_the_rules(self):
        texts = {path: path.read_bytes().decode("ascii") for path in self.files()}
        own = own_attributes([ast.parse(text) for text in texts.values()])
        for path, text in texts.items():
            self.assertEqual(faults_of(text, own), [], path)

    def test_no_two_files_draw_from_one_another(self):
        drawn = {}
        for path in self.files():
            rows = [node for node in ast.parse(path.read_text()).body if isinstance(node, ast.ImportFrom)]
            drawn[path.stem] = {row.module.partition(".")[2] for row in rows}
        while drawn:
            free = [name for name in drawn if not drawn[name] & set(drawn)]
            self.assertTrue(free, drawn)
            for name in free:
                drawn.pop(name)

    def test_faults_are_found(self):
        for text in [
            "import sys\n", "from leastrow.sizes import *\n", "from leastrow.nowhere import one\n", "from . import one\n",
            "print(1)\n", "ONE = 1\nONE = 2\n", "def one(*many):\n    return many\n", "def one(a):\n    return a / 2\n",
            "def one(n):\n    return 2 ** n\n", "def one(a, b):\n    return a is b\n", "def one(a):\n    a, b = a\n",
            "def one():\n    a = b = 1\n", "def one(a):\n    return a.sort()\n", "def one(a):\n    return eval(a)\n",
            "def one(_a):\n    return _a\n", "def one(id):\n    return id\n", "# a type\n", "ONE = 1.5\n", "\t\n",
            "def one(a):\n    return {b for b in a}\n", "def one(a):\n    with a:\n        pass\n", "# " + "a" * 119 + "\n",
            "class One:\n    two = 1\n", "def one(a):\n    return [c for b in a for c in b]\n",
            "def one():\n" + "    pass\n" * 40, "def one(a):\n    b = zip(a, a)\n", "def one(a):\n    b = a.items()\n",
            "def one(a):\n    b = set(a)\n", "def one(a):\n    for b in set(a):\n        pass\n",
            "def one(a):\n    return sorted(set(a), reverse=True)\n", "def one(a):\n    return len(range(a))\n",
            "from leastrow.sizes import is_size\n\n\ndef one(is_size):\n    return is_size\n",
        ]:
            self.assertNotEqual(faults_of(text), [], text)
