"""The package keeps to the small part of Python that its language rules (L1 to L28) tell.

Checked here is what can be read off a file by itself with little doubt; each
finding begins with the number of its rule. What a rule asks beyond that
(L13, L19, L23, L24, L28 above all) is for the reader.
"""

import ast
import builtins
import pathlib
import re
import unittest

PACKAGE = pathlib.Path(__file__).resolve().parent.parent / "sampleyard"

ERRORS = """Exception ValueError TypeError KeyError IndexError LookupError ZeroDivisionError ArithmeticError
OverflowError RuntimeError NotImplementedError AttributeError StopIteration""".split()
BUILT_IN = """len range enumerate zip min max sum abs sorted reversed int str bool list tuple dict set frozenset
isinstance ord repr any all divmod""".split() + ERRORS
METHODS = """append clear copy count endswith extend find get index insert isalnum isalpha isdigit islower isspace
isupper items join keys ljust lower lstrip partition pop remove replace reverse rfind rjust rpartition rsplit rstrip
setdefault split splitlines startswith strip update upper values zfill bit_length""".split()
SPECIAL = ["__init__", "__eq__", "__repr__", "__str__", "__len__"]
NO_NAMES = """register mro elements open input version_info with_traceback add_note attrgetter breakpoint builtins
compile copyright credits delattr dir eval exec exit gc getattr globals hasattr help id importlib license locals
methodcaller os quit setattr super type vars sys print format format_map chr""".split()
NO_WORDS = """type typing typing_extensions enum Enum IntEnum StrEnum Flag IntFlag Generic Protocol ABC ABCMeta
namedtuple NamedTuple TypedDict TYPE_CHECKING abstractmethod""".split()
NO_PARTS = ["dataclass", "overload", "contextmanager"]
NO_FILES = ["test", "tests", "testing", "site", "conftest", "sitecustomize", "usercustomize"] + NO_WORDS
NO_VALUES = """items keys values pop update append clear extend insert remove reverse setdefault sort args encode
format""".split()
WALKED = ["zip", "enumerate", "reversed", "range", "items", "keys", "values"]
WALKERS = "list tuple dict sorted sum any all enumerate zip min max join".split()
NODES = (
    ast.Module, ast.ImportFrom, ast.alias, ast.FunctionDef, ast.arguments, ast.arg, ast.ClassDef, ast.Lambda,
    ast.Assign, ast.AugAssign, ast.If, ast.While, ast.For, ast.Return, ast.Break, ast.Continue, ast.Pass, ast.Raise,
    ast.Try, ast.ExceptHandler, ast.Expr, ast.Constant, ast.Name, ast.List, ast.Tuple, ast.Dict, ast.Set,
    ast.BinOp, ast.UnaryOp, ast.BoolOp, ast.Compare, ast.IfExp, ast.Call, ast.keyword, ast.Attribute, ast.Subscript,
    ast.Slice, ast.ListComp, ast.comprehension, ast.JoinedStr, ast.FormattedValue, ast.expr_context, ast.operator,
    ast.unaryop, ast.boolop, ast.cmpop,
)


def text_findings(text):
    rows = text.split("\n")
    found = [f"L10 row {at} is too long" for at, row in enumerate(rows, 1) if len(row) > 120]
    if len(rows) > 401:
        found.append("L10 the file is too long")
    found += [f"L14 sign {sign!r}" for sign in sorted(set(text)) if sign != "\n" and not " " <= sign <= "~"]
    found += [f"L17 word {word}" for word in re.findall(r"\w+", text) if word in NO_WORDS]
    found += [f"L17 part {part}" for part in NO_PARTS if part in text]
    return found


def top_findings(tree):
    found = []
    bound = []
    for at, node in enumerate(tree.body):
        if isinstance(node, (ast.FunctionDef, ast.ClassDef)):
            bound.append(node.name)
        elif isinstance(node, ast.Assign):
            bound += [target.id for target in node.targets if isinstance(target, ast.Name)]
            calls = [part for part in ast.walk(node.value) if isinstance(part, (ast.Call, ast.Set, ast.Lambda))]
            found += [f"L3 no plain value, row {part.lineno}" for part in calls]
        elif isinstance(node, ast.ImportFrom):
            bound += [alias.asname or alias.name for alias in node.names]
        elif not (at == 0 and is_text_row(node)):
            found.append(f"L3 row {node.lineno}")
    return found + [f"L15 {name} is bound twice" for name in sorted(set(bound)) if bound.count(name) > 1]


def is_text_row(node):
    return isinstance(node, ast.Expr) and isinstance(node.value, ast.Constant) and isinstance(node.value.value, str)


def def_findings(node):
    found = []
    given = node.args
    if given.vararg or given.kwarg or given.kwonlyargs or given.posonlyargs or node.decorator_list:
        found.append(f"L4 {node.name}")
    if node.end_lineno - node.lineno + 1 > 40:
        found.append(f"L10 {node.name} is too long")
    kept = [arg.annotation for arg in given.args] + [node.returns]
    return found + [f"L21 {node.name} has an annotation" for note in kept if note]


def class_findings(node):
    found = []
    if len(node.bases) > 1 or node.keywords or node.decorator_list:
        found.append(f"L5 {node.name}")
    names = [part.name for part in node.body if isinstance(part, ast.FunctionDef)]
    found += [f"L18 {name} stands twice" for name in sorted(set(names)) if names.count(name) > 1]
    others = [part for part in node.body if not isinstance(part, (ast.FunctionDef, ast.Pass))]
    return found + [f"L5 body of {node.name}, row {part.lineno}" for part in others]


def name_findings(name, is_new):
    found = []
    if name in NO_NAMES:
        found.append(f"L17 name {name}")
    if name.startswith("_") and name not in SPECIAL:
        found.append(f"L12 name {name}")
    if is_new and hasattr(builtins, name):
        found.append(f"L15 name {name} is Python's own")
    if not is_new and hasattr(builtins, name) and name not in BUILT_IN:
        found.append(f"L8 name {name}")
    return found


def value_findings(node):
    if isinstance(node, ast.Constant):
        if not (node.value is None or isinstance(node.value, (bool, int, str))):
            return [f"L7 value in row {node.lineno}"]
        if isinstance(node.value, str) and "%" in node.value:
            return [f"L27 sign in a text of row {node.lineno}"]
    if isinstance(node, (ast.BinOp, ast.AugAssign)):
        if isinstance(node.op, (ast.Div, ast.MatMult)):
            return [f"L7 operator in row {node.lineno}"]
        exponent = node.right if isinstance(node, ast.BinOp) else node.value
        if isinstance(node.op, ast.Pow) and not (isinstance(exponent, ast.Constant) and 0 <= exponent.value <= 64):
            return [f"L27 exponent in row {node.lineno}"]
    if isinstance(node, ast.Compare) and any([isinstance(op, (ast.Is, ast.IsNot)) for op in node.ops]):
        sides = [node.left] + node.comparators
        if not any([isinstance(side, ast.Constant) and side.value in (None, True, False) for side in sides]):
            return [f"L20 row {node.lineno}"]
    if isinstance(node, ast.ListComp):
        if len(node.generators) > 1 or len(node.generators[0].ifs) > 1:
            return [f"L7 list in row {node.lineno}"]
    return []


def statement_findings(node):
    if isinstance(node, ast.Assign) and len(node.targets) > 1:
        return [f"L6 two targets in row {node.lineno}"]
    if isinstance(node, (ast.For, ast.While)) and node.orelse:
        return [f"L6 else behind a loop in row {node.lineno}"]
    if isinstance(node, ast.Try) and node.finalbody:
        return [f"L6 finally in row {node.lineno}"]
    if isinstance(node, ast.ExceptHandler):
        if node.type is None or ast.unparse(node.type) in ("Exception", "TypeError"):
            return [f"L19 row {node.lineno}"]
    if isinstance(node, ast.ImportFrom) and not is_own_import(node):
        return [f"L2 row {node.lineno}"]
    return []


def is_own_import(node):
    if node.module == "__future__":
        return True
    own = node.level == 0 and (node.module or "").startswith("sampleyard.")
    return own and not any([alias.name == "*" for alias in node.names])


def node_findings(node, own_names):
    if not isinstance(node, NODES):
        return [f"L6 {ast.unparse(node)}"]
    found = value_findings(node) + statement_findings(node)
    if isinstance(node, ast.FunctionDef):
        found += def_findings(node) + ([] if node.name in SPECIAL else name_findings(node.name, False))
    elif isinstance(node, ast.ClassDef):
        found += class_findings(node) + name_findings(node.name, True)
    elif isinstance(node, ast.arg):
        found += name_findings(node.arg, True)
    elif isinstance(node, ast.Name):
        found += name_findings(node.id, isinstance(node.ctx, ast.Store))
    elif isinstance(node, ast.Attribute):
        if node.attr in NO_NAMES:
            found.append(f"L17 attribute {node.attr}")
        if node.attr not in METHODS + SPECIAL and node.attr not in own_names:
            found.append(f"L25 attribute {node.attr}")
    return found


def methods_of(tree):
    classes = [node for node in ast.walk(tree) if isinstance(node, ast.ClassDef)]
    return [part for node in classes for part in node.body if isinstance(part, ast.FunctionDef)]


def values_of(tree):
    """the names of the values that objects are given"""
    given = [node for node in ast.walk(tree) if isinstance(node, ast.Attribute) and isinstance(node.ctx, ast.Store)]
    return [node.attr for node in given]


def own_names_of(tree):
    """what the package itself calls so: its methods, and the values it gives its objects"""
    return [method.name for method in methods_of(tree)] + values_of(tree)


def object_findings(tree):
    found = [f"L26 value {name}" for name in values_of(tree) if name in NO_VALUES]
    for method in methods_of(tree):
        returns = [node for node in ast.walk(method) if isinstance(node, ast.Return)]
        if method.name == "__init__" and any([node.value is not None for node in returns]):
            found.append(f"L28 __init__ in row {method.lineno}")
    return found


def local_findings(tree):
    """parameters and locals that are called like a class or an import of their file"""
    taken = [node.name for node in tree.body if isinstance(node, ast.ClassDef)]
    for node in tree.body:
        if isinstance(node, ast.ImportFrom):
            taken += [alias.asname or alias.name for alias in node.names]
    found = []
    for node in ast.walk(tree):
        if isinstance(node, ast.arg) and node.arg in taken:
            found.append(f"L15 parameter {node.arg}")
        if isinstance(node, ast.Name) and isinstance(node.ctx, ast.Store) and node.id in taken:
            found.append(f"L15 local {node.id}")
    return found


def called(node):
    """the name that is called, of a function or a method; else nothing"""
    if not isinstance(node, ast.Call):
        return ""
    return node.func.id if isinstance(node.func, ast.Name) else getattr(node.func, "attr", "")


def walked_findings(tree):
    """what is to be walked on the spot and is kept, and sets that are kept or walked"""
    found = []
    for parent in ast.walk(tree):
        for child in ast.iter_child_nodes(parent):
            is_walked = isinstance(parent, (ast.For, ast.comprehension)) and child is parent.iter
            if called(child) in WALKED and not is_walked and called(parent) not in WALKERS:
                found.append(f"L23 row {child.lineno}")
            if called(child) in ("set", "frozenset") or isinstance(child, ast.Set):
                if not isinstance(parent, (ast.Compare, ast.BinOp)) and called(parent) not in ("sorted", "len"):
                    found.append(f"L24 row {child.lineno}")
    return found


def class_value_findings(tree):
    """classes of the file, or drawn from another one, that stand where a value does"""
    names = [node.name for node in tree.body if isinstance(node, ast.ClassDef)]
    for node in tree.body:
        if isinstance(node, ast.ImportFrom):
            names += [alias.name for alias in node.names if alias.name[0].isupper() and not alias.name.isupper()]
    allowed = []
    for node in ast.walk(tree):
        if isinstance(node, ast.Call):
            allowed += [node.func] + (node.args[1:] if called(node) == "isinstance" else [])
        elif isinstance(node, ast.ClassDef):
            allowed += node.bases
        elif isinstance(node, ast.ExceptHandler):
            allowed += node.type.elts if isinstance(node.type, ast.Tuple) else [node.type]
        elif isinstance(node, ast.Attribute):
            allowed.append(node.value)
    uses = [node for node in ast.walk(tree) if isinstance(node, ast.Name) and node.id in names]
    return [f"L18 {node.id} in row {node.lineno}" for node in uses if not any([node is other for other in allowed])]


def findings(text, own_names):
    tree = ast.parse(text)
    found = text_findings(text) + top_findings(tree) + object_findings(tree) + local_findings(tree)
    found += walked_findings(tree) + class_value_findings(tree)
    for node in ast.walk(tree):
        found += node_findings(node, own_names)
    return found


def package_files():
    return sorted([path for path in PACKAGE.rglob("*") if "__pycache__" not in path.parts])


def drawn_from(path):
    tree = ast.parse(path.read_text(encoding="utf-8"))
    return [node for node in tree.body if isinstance(node, ast.ImportFrom) and node.module != "__future__"]


class Package(unittest.TestCase):
    def test_files(self):
        self.assertIn(PACKAGE / "__init__.py", package_files())
        for path in package_files():
            self.assertTrue(path.is_file() and path.suffix == ".py", f"L1 {path}")
            self.assertRegex(path.stem, r"^[a-z0-9_]+$", f"L14 {path}")
            self.assertFalse(path.stem in dir(builtins) or path.stem in NO_FILES, f"L14 {path}")
            self.assertFalse(path.stem.startswith("test_"), f"L14 {path}")

    def test_each_file(self):
        texts = [path.read_text(encoding="utf-8") for path in package_files()]
        own_names = []
        for text in texts:
            own_names += own_names_of(ast.parse(text))
        for path, text in zip(package_files(), texts):
            self.assertEqual(findings(text, own_names), [], path.name)

    def test_no_name_is_a_method_and_a_value(self):
        trees = [ast.parse(path.read_text(encoding="utf-8")) for path in package_files()]
        methods = [method.name for tree in trees for method in methods_of(tree)]
        values = [name for tree in trees for name in values_of(tree)]
        self.assertEqual(sorted(set(methods) & set(values)), [], "L18")

    def test_drawn_from_the_very_file(self):
        for path in package_files():
            for node in drawn_from(path):
                source = PACKAGE / (node.module.split(".", 1)[1].replace(".", "/") + ".py")
                self.assertTrue(source.is_file(), f"L16 {path.name}: {node.module}")
                tree = ast.parse(source.read_text(encoding="utf-8"))
                defined = [part.name for part in tree.body if isinstance(part, (ast.FunctionDef, ast.ClassDef))]
                for part in tree.body:
                    if isinstance(part, ast.Assign):
                        defined += [target.id for target in part.targets]
                for alias in node.names:
                    self.assertIn(alias.name, defined, f"L16 {path.name}")

    def test_no_two_files_draw_from_one_another(self):
        draws = {path.stem: [node.module.split(".")[1] for node in drawn_from(path)] for path in package_files()}
        for stem in draws:
            reached = list(draws[stem])
            for other in reached:
                reached += [more for more in draws[other] if more not in reached]
            self.assertNotIn(stem, reached, "L16")


class Checker(unittest.TestCase):
    """the checks above must be able to fail"""

    def test_what_is_within_the_rules(self):
        for text in ('"""Words."""\n\nMOST = 3\n', "def f(a, b=1):\n    return a // b\n"):
            self.assertEqual(findings(text, []), [])

    def test_what_is_without(self):
        for rule, text in (
            ("L2", "from math import gcd\n"), ("L2", "from .errors import NoRow\n"), ("L6", "import math\n"),
            ("L2", "from sampleyard.errors import *\n"), ("L3", "A = len([])\n"), ("L3", "f(1)\n"),
            ("L4", "def f(*a):\n    pass\n"), ("L4", "def f(*, a):\n    pass\n"), ("L5", "class C:\n    a = 1\n"),
            ("L6", "def f():\n    a = b = 1\n"), ("L6", "def f():\n    yield 1\n"),
            ("L6", "def f():\n    assert True\n"), ("L6", "def f(a):\n    return any(b for b in a)\n"),
            ("L7", "def f(a):\n    return a / 2\n"), ("L7", "A = 1.5\n"), ("L8", "def f(a):\n    return pow(a, 2)\n"),
            ("L10", "# " + "a" * 120 + "\n"), ("L10", "def f():\n" + "    pass\n" * 40), ("L12", "_a = 1\n"),
            ("L14", "# \u00e4\n"), ("L14", "# \t\n"), ("L15", "def f(id):\n    pass\n"), ("L15", "A = 1\nA = 2\n"),
            ("L15", "class C:\n    pass\n\n\ndef f(C):\n    pass\n"),
            ("L15", "from sampleyard.fractions import down\n\n\ndef f():\n    down = 1\n"),
            ("L17", "# its type\n"), ("L17", "def f(a):\n    return chr(a)\n"), ("L19", "def f():\n    try:\n"
             "        pass\n    except Exception:\n        pass\n"), ("L20", "def f(a, b):\n    return a is b\n"),
            ("L21", "def f(a: int):\n    pass\n"), ("L25", "def f(a):\n    a.sort()\n"),
            ("L18", "class C:\n    pass\n\n\nA = [C]\n"), ("L23", "def f(a):\n    b = zip(a, a)\n    return b\n"),
            ("L18", "from sampleyard.errors import NoRow\n\n\ndef f():\n    return NoRow\n"),
            ("L23", "def f(a):\n    return reversed(a)\n"), ("L24", "def f(a):\n    b = set(a)\n    return b\n"),
            ("L24", "def f(a):\n    return [b for b in set(a)]\n"), ("L26", "def f(a):\n    a.items = 1\n"),
            ("L27", "def f(n):\n    return 2 ** n\n"),
            ("L27", "A = '5 %'\n"), ("L28", "class C:\n    def __init__(self):\n        return None\n"),
        ):
            found = findings(text, [])
            self.assertTrue([row for row in found if row.startswith(rule + " ")], f"{rule}: {text!r}: {found}")


if __name__ == "__main__":
    unittest.main()
