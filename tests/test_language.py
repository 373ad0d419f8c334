"""The package's files, held against what of the language rules can be seen plainly."""

import ast
import builtins
import re
import unittest
from pathlib import Path

PACKAGE = Path(__file__).resolve().parent.parent / "holdwright"

OWN_NAMES = set(
    "len range enumerate zip min max sum abs sorted reversed int str bool list tuple dict set frozenset isinstance "
    "ord repr any all divmod Exception ValueError TypeError KeyError IndexError LookupError ZeroDivisionError "
    "ArithmeticError OverflowError RuntimeError NotImplementedError AttributeError StopIteration".split())

METHODS = set(
    "append clear copy count endswith extend find get index insert isalnum isalpha isdigit islower isspace isupper "
    "items join keys ljust lower lstrip partition pop remove replace reverse rfind rjust rpartition rsplit rstrip "
    "setdefault split splitlines startswith strip update upper values zfill bit_length".split())

UNDERSCORED = {"__init__", "__eq__", "__repr__", "__str__", "__len__", "__all__", "__version__", "__name__"}

UNUSED_NAMES = set(
    "register mro elements open input version_info with_traceback add_note attrgetter breakpoint builtins compile "
    "copyright credits delattr dir eval exec exit gc getattr globals hasattr help id importlib license locals "
    "methodcaller os quit setattr super type vars format format_map".split())

UNUSED_WORDS = re.compile(
    r"\b(type|typing|typing_extensions|enum|Enum|IntEnum|StrEnum|Flag|IntFlag|Generic|Protocol|ABC|ABCMeta|namedtuple"
    r"|NamedTuple|TypedDict|TYPE_CHECKING|abstractmethod)\b|dataclass|overload|contextmanager")

NODES = set(
    "Module FunctionDef ClassDef arguments arg Assign AugAssign If While For Return Break Continue Pass Raise Try "
    "ExceptHandler Expr Call Import ImportFrom alias Name Attribute Subscript Slice Constant List Tuple Dict Set "
    "ListComp comprehension JoinedStr FormattedValue BoolOp BinOp UnaryOp Compare IfExp Lambda keyword Load Store "
    "And Or Not USub UAdd Invert Add Sub Mult FloorDiv Mod Pow BitAnd BitOr BitXor LShift RShift "
    "Eq NotEq Lt LtE Gt GtE In NotIn Is IsNot".split())

CHANGES = {"append", "clear", "extend", "insert", "pop", "remove", "reverse", "setdefault", "update"}


def faults_of_text(text):
    """What can be seen in the rows of a file alone."""
    found = []
    rows = text.split("\n")
    if len(rows) - 1 > 400:
        found.append((401, "L10 file"))
    for number, row in enumerate(rows, 1):
        if len(row) > 120:
            found.append((number, "L10 line"))
        if any(not " " <= sign <= "~" for sign in row):
            found.append((number, "L14 sign"))
        if UNUSED_WORDS.search(row):
            found.append((number, "L17 word"))
    return found


def faults_of_node(node):
    """What can be seen in one node of a file."""
    name = type(node).__name__
    if name not in NODES:
        return ["L6 or L7 " + name]
    found = []
    if name in ("For", "While") and node.orelse:
        found.append("L6 else behind a loop")
    if name == "Try" and node.finalbody:
        found.append("L6 finally")
    if name == "ExceptHandler" and (node.type is None or getattr(node.type, "id", "") in ("Exception", "TypeError")):
        found.append("L19 handler")
    if name == "Assign" and len(node.targets) != 1:
        found.append("L6 targets")
    if name == "Expr" and not isinstance(node.value, (ast.Call, ast.Constant)):
        found.append("L6 expression by itself")
    if name == "ListComp" and (len(node.generators) != 1 or len(node.generators[0].ifs) > 1):
        found.append("L7 comprehension")
    if name == "Constant" and isinstance(node.value, (float, complex, bytes)):
        found.append("L7 value")
    if name == "Constant" and isinstance(node.value, str) and "%" in node.value:
        found.append("L27 sign")
    if name == "FormattedValue" and (not isinstance(node.value, ast.Name) or node.format_spec):
        found.append("L7 f-string")
    if name == "Compare":
        sides = [node.left] + node.comparators
        for place, sign in enumerate(node.ops):
            if isinstance(sign, (ast.Is, ast.IsNot)):
                other = sides[place + 1]
                if not (isinstance(other, ast.Constant) and other.value in (None, True, False)):
                    found.append("L20 is")
    if name == "BinOp" and isinstance(node.op, ast.Pow) and not isinstance(node.right, ast.Constant):
        found.append("L27 power")
    return found


def faults_of_def(node):
    found = []
    if node.end_lineno - node.lineno + 1 > 40:
        found.append("L10 function")
    given = node.args
    if given.vararg or given.kwarg or given.kwonlyargs or given.posonlyargs or node.decorator_list:
        found.append("L4 parameters")
    if node.returns or any(arg.annotation for arg in given.args):
        found.append("L21 annotation")
    return found


def faults_of_names(tree):
    """Names outside the rules, and Python's own names that are given another meaning."""
    found = []
    tops = names_of_classes_and_imports(tree)
    for node in ast.walk(tree):
        bound, used = bound_and_used(node)
        for name in bound + used:
            if name.startswith("_") and name not in UNDERSCORED:
                found.append((node.lineno, "L12 " + name))
            if name in UNUSED_NAMES:
                found.append((node.lineno, "L17 " + name))
        for name in used:
            if isinstance(node, ast.Name) and hasattr(builtins, name) and name not in OWN_NAMES:
                found.append((node.lineno, "L8 " + name))
        for name in bound:
            if hasattr(builtins, name) and not isinstance(node, (ast.FunctionDef, ast.Attribute)):
                found.append((node.lineno, "L15 " + name))
            if isinstance(node, (ast.Name, ast.arg)) and name in tops:
                found.append((node.lineno, "L15 " + name))
    return found


def names_of_classes_and_imports(tree):
    found = []
    for node in tree.body:
        if isinstance(node, ast.ClassDef):
            found.append(node.name)
        if isinstance(node, ast.ImportFrom):
            found.extend(one.asname or one.name for one in node.names)
    return found


def bound_and_used(node):
    if isinstance(node, ast.Name):
        return ([node.id], []) if isinstance(node.ctx, ast.Store) else ([], [node.id])
    if isinstance(node, ast.arg):
        return [node.arg], []
    if isinstance(node, (ast.FunctionDef, ast.ClassDef)):
        return [node.name], []
    if isinstance(node, ast.Attribute):
        return ([node.attr], []) if isinstance(node.ctx, ast.Store) else ([], [node.attr])
    return [], []


def faults_of_top(tree):
    found = []
    bound = []
    for place, node in enumerate(tree.body):
        if isinstance(node, (ast.FunctionDef, ast.ClassDef)):
            bound.append(node.name)
        elif isinstance(node, ast.ImportFrom):
            bound.extend(one.asname or one.name for one in node.names)
        elif isinstance(node, ast.Assign) and isinstance(node.targets[0], ast.Name):
            bound.append(node.targets[0].id)
        elif not (place == 0 and isinstance(node, ast.Expr) and isinstance(node.value, ast.Constant)):
            found.append((node.lineno, "L3 top"))
    if len(bound) != len(set(bound)):
        found.append((1, "L15 bound twice"))
    for node in ast.walk(tree):
        if isinstance(node, ast.Import):
            found.append((node.lineno, "L16 import"))
        if isinstance(node, ast.ImportFrom):
            if node not in tree.body or node.level or not node.module.startswith("holdwright."):
                found.append((node.lineno, "L2 import"))
        if isinstance(node, ast.ClassDef):
            found.extend((part.lineno, "L5 class body") for part in node.body if not isinstance(part, ast.FunctionDef))
            if node not in tree.body or len(node.bases) > 1 or node.keywords or node.decorator_list:
                found.append((node.lineno, "L5 class"))
    return found


def faults(text):
    tree = ast.parse(text)
    found = faults_of_text(text) + faults_of_top(tree) + faults_of_names(tree)
    for node in ast.walk(tree):
        found.extend((getattr(node, "lineno", 0), fault) for fault in faults_of_node(node))
        if isinstance(node, ast.FunctionDef):
            found.extend((node.lineno, fault) for fault in faults_of_def(node))
    return found


def package_files():
    return sorted(path for path in PACKAGE.iterdir() if path.name != "__pycache__")


def trees():
    return {path.stem: ast.parse(path.read_text(encoding="utf-8")) for path in package_files()}


def drawn_from(tree):
    return [node.module.split(".")[1] for node in tree.body if isinstance(node, ast.ImportFrom)]


def methods_and_values():
    methods, values = set(), set()
    for tree in trees().values():
        for node in ast.walk(tree):
            if isinstance(node, ast.ClassDef):
                methods.update(part.name for part in node.body if isinstance(part, ast.FunctionDef))
            if isinstance(node, ast.Attribute) and isinstance(node.ctx, ast.Store):
                values.add(node.attr)
    return methods, values


class PackageTest(unittest.TestCase):
    def test_only_plain_files(self):
        for path in package_files():
            self.assertTrue(path.is_file(), path)
            self.assertRegex(path.name, r"\A([a-z][a-z0-9_]*|__init__|__main__)\.py\Z")
            self.assertFalse(path.stem in dir(builtins) or path.stem.startswith("test"), path)
        self.assertIn(PACKAGE / "__init__.py", package_files())

    def test_each_file(self):
        for path in package_files():
            with self.subTest(file=path.name):
                self.assertEqual(faults(path.read_text(encoding="utf-8")), [])

    def test_no_two_files_draw_from_one_another(self):
        drawn = {name: drawn_from(tree) for name, tree in trees().items()}
        while drawn:
            free = [name for name in drawn if not any(other in drawn for other in drawn[name])]
            self.assertNotEqual(free, [], drawn)
            drawn = {name: others for name, others in drawn.items() if name not in free}

    def test_names_are_drawn_from_where_they_are_defined(self):
        files = trees()
        for name, tree in files.items():
            for node in tree.body:
                if isinstance(node, ast.ImportFrom):
                    source = files[node.module.split(".")[1]]
                    defined = [part.name for part in source.body if isinstance(part, (ast.FunctionDef, ast.ClassDef))]
                    defined += [part.targets[0].id for part in source.body if isinstance(part, ast.Assign)]
                    for one in node.names:
                        self.assertIn(one.name, defined, name)

    def test_no_name_is_a_method_and_a_value(self):
        methods, values = methods_and_values()
        self.assertEqual(methods & values, set())

    def test_methods_that_are_called(self):
        methods, values = methods_and_values()
        errors = {"__init__"}
        for name, tree in trees().items():
            for node in ast.walk(tree):
                if isinstance(node, ast.Call) and isinstance(node.func, ast.Attribute):
                    self.assertIn(node.func.attr, methods | METHODS | errors, name)

    def test_no_value_is_called_like_a_method_of_pythons_own(self):
        methods, values = methods_and_values()
        allowed = {"count", "index", "title", "find", "get", "join", "lower", "upper", "split", "strip", "copy", "add"}
        for kind in (str, int, list, dict, set, bytes, tuple):
            self.assertEqual((values & set(dir(kind))) - allowed, set())
            self.assertEqual((methods & set(dir(kind))) - METHODS - UNDERSCORED - {"add", "discard"}, set())

    def test_nothing_kept_at_a_files_top_is_changed(self):
        for name, tree in trees().items():
            kept = [part.targets[0].id for part in tree.body if isinstance(part, ast.Assign)]
            for node in ast.walk(tree):
                if isinstance(node, ast.Attribute) and node.attr in CHANGES:
                    self.assertNotIn(getattr(node.value, "id", None), kept, name)
                if isinstance(node, ast.Subscript) and isinstance(node.ctx, ast.Store):
                    self.assertNotIn(getattr(node.value, "id", None), kept, name)


class LookerTest(unittest.TestCase):
    """What the look above must see, so that it doesn't let all by."""

    def seen(self, rule, text):
        self.assertTrue(any(fault.startswith(rule) for at, fault in faults(text)), (rule, faults(text)))

    def test_plain_code_is_let_by(self):
        self.assertEqual(faults('"""Words."""\n\nKEPT = 3\n\n\ndef three(given):\n    return given + KEPT\n'), [])

    def test_faults_are_seen(self):
        self.seen("L2", "from os import path\n")
        self.seen("L3", "print(3)\n")
        self.seen("L4", "def f(*xs):\n    return xs\n")
        self.seen("L5", "class A:\n    x = 3\n")
        self.seen("L6", "def f(x):\n    assert x\n")
        self.seen("L6", "def f(x):\n    y = z = x\n")
        self.seen("L6", "def f(x):\n    for y in x:\n        pass\n    else:\n        pass\n")
        self.seen("L7", "X = 1.5\n")
        self.seen("L6 or L7", "X = 1 / 2\n")
        self.seen("L7", "def f(xs, ys):\n    return [x for x in xs for y in ys]\n")
        self.seen("L8", "def f(xs):\n    return map(len, xs)\n")
        self.seen("L10 function", "def f(x):\n" + "    x = 1\n" * 40)
        self.seen("L10 file", "X = 3\n" + "# words\n" * 400)
        self.seen("L10 line", "#" + "x" * 120 + "\n")
        self.seen("L12", "def _f(x):\n    return x\n")
        self.seen("L14", "# \u00fc\n")
        self.seen("L14", "def f(x):\n\treturn x\n")
        self.seen("L15", "def f(hash):\n    return 3\n")
        self.seen("L15", "X = 3\nX = 4\n")
        self.seen("L16", "import sys\n")
        self.seen("L17", "# the type of it\n")
        self.seen("L17", "def f(x):\n    return vars(x)\n")
        self.seen("L19", "def f(x):\n    try:\n        x()\n    except Exception:\n        pass\n")
        self.seen("L20", "def f(x, y):\n    return x is y\n")
        self.seen("L21", "def f(x: int):\n    return x\n")
        self.seen("L27", "def f(n):\n    return 2 ** n\n")


if __name__ == "__main__":
    unittest.main()
