"""Holds the package's files against the rules of ../shared/LANGUAGE.md that can be seen in their form.

What needs a reader (plain names, remarks that say why, what a rule can't see) is left to one.
"""

import ast
import builtins
import re
import unittest
from pathlib import Path

PACKAGE = Path(__file__).resolve().parent.parent / "doletaper"

OWN_NAMES = set(
    "len range enumerate zip min max sum abs sorted reversed int str bool list tuple dict set isinstance ord repr any"
    " all divmod Exception ValueError TypeError KeyError IndexError LookupError ZeroDivisionError ArithmeticError"
    " OverflowError RuntimeError NotImplementedError AttributeError StopIteration".split()
)
OWN_METHODS = set(
    "append clear copy count endswith extend find get index insert isalnum isalpha isdigit islower isspace isupper"
    " items join keys ljust lower lstrip partition pop remove replace reverse rfind rjust rpartition rsplit rstrip"
    " setdefault split splitlines startswith strip update upper values zfill bit_length".split()
)
TWO_UNDERSCORES = {"__init__", "__eq__", "__repr__", "__str__", "__len__"}
FORBIDDEN_NAMES = set(
    "register mro elements open input version_info with_traceback add_note attrgetter breakpoint builtins compile"
    " copyright credits delattr dir eval exec exit gc getattr globals hasattr help id importlib license locals"
    " methodcaller os quit setattr super type vars format format_map sys".split()
)
FORBIDDEN_WORDS = re.compile(
    r"\b(type|typing|typing_extensions|enum|Enum|IntEnum|StrEnum|Flag|IntFlag|Generic|Protocol|ABC|ABCMeta|namedtuple"
    r"|NamedTuple|TypedDict|TYPE_CHECKING|abstractmethod)\b|dataclass|overload|contextmanager"
)
FORBIDDEN_FILES = re.compile(r"(test|tests|testing|test_.*|site|conftest|sitecustomize|usercustomize)\Z")
STATEMENTS = (
    ast.Assign, ast.AugAssign, ast.If, ast.While, ast.For, ast.Return, ast.Break, ast.Continue, ast.Pass, ast.Raise,
    ast.Try, ast.Expr, ast.FunctionDef, ast.ClassDef, ast.ImportFrom,
)
EXPRESSIONS = (
    ast.Constant, ast.List, ast.Tuple, ast.Dict, ast.BinOp, ast.UnaryOp, ast.BoolOp, ast.Compare, ast.IfExp, ast.Call,
    ast.Attribute, ast.Subscript, ast.Slice, ast.ListComp, ast.JoinedStr, ast.FormattedValue, ast.Name, ast.Lambda,
)
PYTHON_NAMES = set(vars(builtins))
PYTHON_MEMBERS = {
    name for kind in (str, int, list, tuple, dict, set, frozenset, bytes) for name in dir(kind) if name[:2] != "__"
}
PLAIN_VALUES = set("count index title find get join lower upper split strip copy add".split())
WALKED = {"zip", "enumerate", "reversed", "range"}
WALKERS = {"list", "tuple", "dict", "sorted", "sum", "any", "all", "enumerate", "zip", "min", "max"}


def is_plain(node):
    if isinstance(node, ast.UnaryOp) and isinstance(node.op, ast.USub):
        return is_plain(node.operand)
    if isinstance(node, (ast.List, ast.Tuple)):
        return all(is_plain(part) for part in node.elts)
    if isinstance(node, ast.Dict):
        return all(is_plain(part) for part in node.keys + node.values)
    return isinstance(node, (ast.Constant, ast.Name))


def bound_names(tree):
    """Each name that a def, a class, a parameter, a loop or an assignment binds, with its line."""
    for node in ast.walk(tree):
        if isinstance(node, (ast.FunctionDef, ast.ClassDef)):
            yield node.name, node.lineno
        elif isinstance(node, ast.arg):
            yield node.arg, node.lineno
        elif isinstance(node, ast.Name) and isinstance(node.ctx, ast.Store):
            yield node.id, node.lineno


def classes_of(tree):
    return {node.name for node in tree.body if isinstance(node, ast.ClassDef)}


def methods_of(tree):
    classes = [node for node in tree.body if isinstance(node, ast.ClassDef)]
    return {part.name for node in classes for part in node.body if isinstance(part, ast.FunctionDef)}


def sign_faults(source):
    for number, line in enumerate(source.split("\n"), start=1):
        if len(line) > 120:
            yield "L10", number
        if re.search(r"[^ -~]", line):
            yield "L14", number
        if FORBIDDEN_WORDS.search(line):
            yield "L17", number
    if source.count("\n") > 400:
        yield "L10", 400


def top_faults(tree):
    seen = set()
    for place, node in enumerate(tree.body):
        names = []
        if isinstance(node, ast.ImportFrom):
            names = [alias.asname or alias.name for alias in node.names]
        elif isinstance(node, (ast.FunctionDef, ast.ClassDef)):
            names = [node.name]
        elif isinstance(node, ast.Assign):
            names = [getattr(target, "id", "") for target in node.targets]
            if not is_plain(node.value):
                yield "L3", node.lineno
        elif not (place == 0 and isinstance(node, ast.Expr) and isinstance(node.value, ast.Constant)):
            yield "L3", node.lineno
        for name in names:
            if name in seen:
                yield "L15", node.lineno
            seen.add(name)


def name_faults(tree):
    taken = {alias.name for node in tree.body if isinstance(node, ast.ImportFrom) for alias in node.names}
    classes = classes_of(tree)
    methods = methods_of(tree)
    for name, line in bound_names(tree):
        if name not in TWO_UNDERSCORES and not re.fullmatch(r"[A-Za-z][A-Za-z0-9_]*", name):
            yield "L12", line
        if name not in methods and (name in taken or name in PYTHON_NAMES or name in FORBIDDEN_NAMES):
            yield "L15", line
    for node in ast.walk(tree):
        if isinstance(node, ast.Name) and node.id in PYTHON_NAMES and node.id not in OWN_NAMES:
            yield "L8", node.lineno
        if isinstance(node, ast.Name) and node.id in FORBIDDEN_NAMES:
            yield "L17", node.lineno
        if isinstance(node, ast.Name) and isinstance(node.ctx, ast.Store) and node.id in classes:
            yield "L15", node.lineno


def def_faults(node):
    args = node.args
    if args.vararg or args.kwarg or args.kwonlyargs or args.posonlyargs or not all(map(is_plain, args.defaults)):
        yield "L4", node.lineno
    if isinstance(node, ast.Lambda):
        return
    if node.decorator_list:
        yield "L4", node.lineno
    if node.returns or any(arg.annotation for arg in args.args):
        yield "L21", node.lineno
    if node.end_lineno - node.lineno >= 40:
        yield "L10", node.lineno
    if node.name == "__init__" and any(isinstance(part, ast.Return) for part in ast.walk(node)):
        yield "L28", node.lineno


def class_faults(node):
    if node.decorator_list or node.keywords or len(node.bases) > 1:
        yield "L5", node.lineno
    for part in node.body:
        if not isinstance(part, (ast.FunctionDef, ast.Pass)):
            yield "L5", part.lineno


def statement_faults(node):
    if not isinstance(node, STATEMENTS):
        yield "L6", node.lineno
    if isinstance(node, ast.Assign) and (len(node.targets) != 1 or isinstance(node.targets[0], (ast.Tuple, ast.List))):
        yield "L6", node.lineno
    if isinstance(node, (ast.For, ast.While)) and node.orelse:
        yield "L6", node.lineno
    if isinstance(node, ast.Expr) and not isinstance(node.value, (ast.Call, ast.Constant)):
        yield "L6", node.lineno
    if isinstance(node, ast.Try):
        for handler in node.handlers:
            if not isinstance(handler.type, ast.Name) or handler.type.id in ("Exception", "TypeError"):
                yield "L19", handler.lineno
        if node.finalbody:
            yield "L6", node.lineno
    if isinstance(node, ast.Raise) and not isinstance(node.exc, ast.Call):
        yield "L19", node.lineno


def expression_faults(node):
    if not isinstance(node, EXPRESSIONS):
        yield "L7", node.lineno
    if isinstance(node, ast.Constant) and not isinstance(node.value, (int, str, type(None))):
        yield "L7", node.lineno
    if isinstance(node, ast.Constant) and isinstance(node.value, str) and "%" in node.value:
        yield "L27", node.lineno
    if isinstance(node, ast.BinOp) and isinstance(node.op, (ast.Div, ast.MatMult)):
        yield "L7", node.lineno
    if isinstance(node, ast.BinOp) and isinstance(node.op, ast.Pow):
        if not isinstance(node.right, ast.Constant) or node.right.value not in range(65):
            yield "L27", node.lineno
    if isinstance(node, ast.ListComp) and (len(node.generators) > 1 or len(node.generators[0].ifs) > 1):
        yield "L7", node.lineno
    if isinstance(node, ast.FormattedValue) and (not isinstance(node.value, ast.Name) or node.format_spec):
        yield "L7", node.lineno
    if isinstance(node, ast.Compare):
        for sign, right in zip(node.ops, node.comparators):
            beside = isinstance(right, ast.Constant) and (right.value is None or isinstance(right.value, bool))
            if isinstance(sign, (ast.Is, ast.IsNot)) and not beside:
                yield "L20", node.lineno


def walk_faults(tree):
    """L23 and L24: what is walked on the spot, and sets."""
    allowed = set()
    for node in ast.walk(tree):
        if isinstance(node, (ast.For, ast.comprehension)):
            allowed.add(node.iter)
        elif isinstance(node, ast.Call) and isinstance(node.func, ast.Name) and node.func.id in WALKERS:
            allowed.update(node.args if node.func.id == "zip" else node.args[:1])
    measured = set()
    for node in ast.walk(tree):
        if isinstance(node, ast.Call) and isinstance(node.func, ast.Name) and node.func.id in ("len", "sorted"):
            measured.update(node.args if not node.keywords else [])
    for node in ast.walk(tree):
        if isinstance(node, ast.Call) and isinstance(node.func, ast.Name):
            if node.func.id in WALKED and node not in allowed:
                yield "L23", node.lineno
            if node.func.id in ("set", "frozenset") and node not in measured:
                yield "L24", node.lineno


def method_faults(tree, own_methods):
    for node in ast.walk(tree):
        if isinstance(node, ast.Call) and isinstance(node.func, ast.Attribute):
            base_made = node.func.attr == "__init__"
            if not base_made and node.func.attr not in OWN_METHODS and node.func.attr not in own_methods:
                yield "L25", node.lineno
        if isinstance(node, ast.Attribute) and node.attr in FORBIDDEN_NAMES:
            yield "L17", node.lineno


def values_of(tree):
    return {node.attr for node in ast.walk(tree) if isinstance(node, ast.Attribute) and isinstance(node.ctx, ast.Store)}


def member_faults(tree):
    """L18 and L26: what methods and values of objects are called."""
    for name in methods_of(tree) - TWO_UNDERSCORES:
        if name in PYTHON_MEMBERS and name not in OWN_METHODS | {"add", "discard"}:
            yield "L26", name
    for name in values_of(tree):
        if name == "args" or name in PYTHON_MEMBERS - PLAIN_VALUES:
            yield "L26", name
    for name in methods_of(tree) & values_of(tree):
        yield "L18", name


def class_use_faults(tree, classes):
    """L18: a class is called, is a base, or stands by isinstance, except or raise."""
    allowed = set()
    for node in ast.walk(tree):
        if isinstance(node, ast.Call):
            allowed.add(node.func)
            if isinstance(node.func, ast.Name) and node.func.id == "isinstance":
                allowed.update(ast.walk(node.args[1]))
        elif isinstance(node, ast.ClassDef):
            allowed.update(node.bases)
        elif isinstance(node, ast.ExceptHandler):
            allowed.add(node.type)
        elif isinstance(node, ast.Attribute) and node.attr == "__init__":
            allowed.add(node.value)
    for node in ast.walk(tree):
        if isinstance(node, ast.Name) and node.id in classes and node not in allowed:
            yield "L18", node.lineno


def faults(source, own_methods=(), classes=()):
    tree = ast.parse(source)
    found = list(sign_faults(source)) + list(top_faults(tree)) + list(name_faults(tree)) + list(walk_faults(tree))
    found += list(method_faults(tree, own_methods)) + list(member_faults(tree))
    found += list(class_use_faults(tree, classes_of(tree) | set(classes)))
    for node in ast.walk(tree):
        if isinstance(node, (ast.FunctionDef, ast.Lambda)):
            found += list(def_faults(node))
        if isinstance(node, ast.ClassDef):
            found += list(class_faults(node))
        if isinstance(node, ast.stmt):
            found += list(statement_faults(node))
        if isinstance(node, ast.expr):
            found += list(expression_faults(node))
        if isinstance(node, ast.ImportFrom) and node not in tree.body:
            found.append(("L2", node.lineno))
    return found


def package_files():
    return [path for path in sorted(PACKAGE.rglob("*")) if "__pycache__" not in path.parts and not path.is_dir()]


def drawn_from(tree):
    return [node for node in tree.body if isinstance(node, ast.ImportFrom)]


class Package(unittest.TestCase):
    def test_files(self):
        files = package_files()
        self.assertIn(PACKAGE / "__init__.py", files)
        for path in files:
            self.assertRegex(path.name, r"\A([a-z][a-z0-9_]*|__init__|__main__)\.py\Z")
            self.assertIsNone(FORBIDDEN_FILES.match(path.stem), path)
            self.assertNotIn(path.stem, PYTHON_NAMES)

    def test_each_file_keeps_the_rules(self):
        trees = {path: ast.parse(path.read_text(encoding="utf-8")) for path in package_files()}
        own_methods = {name for tree in trees.values() for name in methods_of(tree)}
        own_values = {name for tree in trees.values() for name in values_of(tree)}
        classes = {name for tree in trees.values() for name in classes_of(tree)}
        self.assertEqual(own_methods & own_values, set())
        for path in trees:
            self.assertEqual(faults(path.read_text(encoding="utf-8"), own_methods, classes), [], path.name)

    def test_imports(self):
        bound = {}
        draws = {}
        for path in package_files():
            tree = ast.parse(path.read_text(encoding="utf-8"))
            module = "doletaper." + path.stem
            bound[module] = {getattr(node, "name", None) for node in tree.body}
            bound[module] |= {node.targets[0].id for node in tree.body if isinstance(node, ast.Assign)}
            draws[module] = [(node.module, alias.name) for node in drawn_from(tree) for alias in node.names]
            self.assertTrue(all(node.level == 0 for node in drawn_from(tree)), path.name)
        for module, rows in draws.items():
            for source, name in rows:
                self.assertIn(name, bound.get(source, ()), (module, source, name))
        placed = set()
        while len(placed) < len(draws):
            ready = {module for module in draws if all(source in placed for source, name in draws[module])} - placed
            self.assertTrue(ready, "files draw from one another")
            placed |= ready


class Checker(unittest.TestCase):
    def test_what_is_outside_the_rules_is_seen(self):
        for rule, source in [
            ("L3", "x = len([])"), ("L3", "print(1)"), ("L4", "def f(*a):\n    pass"),
            ("L4", "def f(a=len([])):\n    pass"), ("L5", "class A:\n    x = 1"), ("L6", "def f():\n    assert True"),
            ("L6", "def f(a):\n    b, c = a"), ("L6", "def f():\n    a = b = 1"), ("L6", "def f():\n    yield 1"),
            ("L7", "def f(a):\n    return a / 2"), ("L7", "def f():\n    return 1.5"),
            ("L7", "def f(a):\n    return any(b for b in a)"), ("L7", "def f(a):\n    return f'{a[0]}'"),
            ("L8", "def f(a):\n    return round(a)"), ("L10", "x = 1  # " + "x" * 120), ("L12", "def _f():\n    pass"),
            ("L14", "# \u00e9"), ("L15", "def f(sum):\n    pass"), ("L15", "x = 1\nx = 2"), ("L17", "# the type"),
            ("L18", "class A:\n    def b(self):\n        self.b = 1"), ("L18", "class A:\n    pass\nx = [A]"),
            ("L18", "class A:\n    pass\ndef f():\n    return A"),
            ("L19", "def f():\n    raise ValueError"), ("L20", "def f(a, b):\n    return a is b"),
            ("L21", "def f(a: int):\n    pass"), ("L23", "def f(a):\n    b = zip(a, a)"),
            ("L24", "def f(a):\n    return set(a)"), ("L24", "def f(a):\n    return sorted(set(a), key=len)"),
            ("L25", "def f(a):\n    a.sort()"),
            ("L26", "class A:\n    def sort(self):\n        pass"), ("L26", "def f(a):\n    a.keys = 1"),
            ("L26", "def f(a):\n    a.args = 1"), ("L27", "x = 'a%'"),
            ("L27", "def f(a):\n    return 2 ** a"), ("L28", "class A:\n    def __init__(self):\n        return None"),
        ]:
            with self.subTest(rule=rule, source=source):
                self.assertIn(rule, [found[0] for found in faults(source)])


if __name__ == "__main__":
    unittest.main()
