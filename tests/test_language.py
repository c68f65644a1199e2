"""The package keeps to the small part of Python that LANGUAGE.md tells, as far as a walk over its trees can see."""

import ast
import builtins
import pathlib
import re
import unittest

ROOT = pathlib.Path(__file__).resolve().parent.parent
PACKAGE = ROOT / "storeway"

OWN_NAMES = set(
    "len range enumerate zip min max sum abs sorted reversed int str bool list tuple dict set frozenset isinstance"
    " ord repr any all divmod Exception ValueError TypeError KeyError IndexError LookupError ZeroDivisionError"
    " ArithmeticError OverflowError RuntimeError NotImplementedError AttributeError StopIteration".split()
)
METHODS = set(
    "append clear copy count endswith extend find get index insert isalnum isalpha isdigit islower isspace isupper"
    " items join keys ljust lower lstrip partition pop remove replace reverse rfind rjust rpartition rsplit rstrip"
    " setdefault split splitlines startswith strip update upper values zfill bit_length".split()
)
DUNDERS = {"__init__", "__eq__", "__repr__", "__str__", "__len__"}
NOT_ANYWHERE = set("register mro elements open input version_info with_traceback add_note format format_map".split())
NOT_AS_NAMES = set(
    "attrgetter breakpoint builtins compile copyright credits delattr dir eval exec exit gc getattr globals hasattr"
    " help id importlib license locals methodcaller os quit setattr super type vars sys __name__".split()
)
NOT_AS_WORDS = set(
    "type typing typing_extensions enum Enum IntEnum StrEnum Flag IntFlag Generic Protocol ABC ABCMeta namedtuple"
    " NamedTuple TypedDict TYPE_CHECKING abstractmethod".split()
)
NOT_WITHIN = ("dataclass", "overload", "contextmanager")
VALUES_LIKE_OWN = set("count index title find get join lower upper split strip copy add".split())
OF_OWN_VALUES = {
    name for sort in (str, int, list, dict, set, bytes, tuple) for name in dir(sort) if not name.startswith("__")
}
WALKED_AT_ONCE = {"zip", "enumerate", "reversed", "range"}
STATEMENTS = (
    ast.Assign, ast.AugAssign, ast.If, ast.While, ast.For, ast.Return, ast.Break, ast.Continue, ast.Pass, ast.Raise,
    ast.Try, ast.Expr, ast.FunctionDef, ast.ClassDef, ast.ImportFrom,
)
EXPRESSIONS = (
    ast.Constant, ast.Name, ast.Attribute, ast.Subscript, ast.Slice, ast.Call, ast.List, ast.Tuple, ast.Dict,
    ast.BinOp, ast.UnaryOp, ast.BoolOp, ast.Compare, ast.IfExp, ast.ListComp, ast.JoinedStr, ast.FormattedValue,
    ast.Lambda,
)


def parsed(source):
    tree = ast.parse(source)
    for node in ast.walk(tree):
        for child in ast.iter_child_nodes(node):
            child.above = node
    return tree


def text_faults(source):
    faults = []
    for row, line in enumerate(source.split("\n"), start=1):
        if len(line) > 120 or "\t" in line:
            faults.append(("L10", row))
        if any(not " " <= sign <= "~" for sign in line):
            faults.append(("L14", row))
        words = re.findall(r"\w+", line)
        if any(word in NOT_AS_WORDS or any(part in word for part in NOT_WITHIN) for word in words):
            faults.append(("L17", row))
    if source.count("\n") > 400:
        faults.append(("L10", 401))
    return faults


def is_plain(node, names):
    if isinstance(node, (ast.List, ast.Tuple)):
        return all(is_plain(piece, names) for piece in node.elts)
    if isinstance(node, ast.Dict):
        return all(is_plain(piece, names) for piece in node.keys + node.values)
    if isinstance(node, ast.Name):
        return node.id in names
    return isinstance(node, ast.Constant) and isinstance(node.value, (int, str, type(None)))


def top_faults(tree):
    faults = []
    bound = []
    defined = []
    for place, node in enumerate(tree.body):
        if isinstance(node, ast.Expr):
            if place > 0 or not isinstance(node.value, ast.Constant):
                faults.append(("L3", node.lineno))
        elif isinstance(node, ast.ImportFrom):
            bound.extend(piece.asname or piece.name for piece in node.names)
        elif isinstance(node, (ast.FunctionDef, ast.ClassDef)):
            bound.append(node.name)
            defined.append(node.name)
        elif isinstance(node, ast.Assign) and isinstance(node.targets[0], ast.Name):
            bound.append(node.targets[0].id)
            if not is_plain(node.value, defined):
                faults.append(("L3", node.lineno))
        else:
            faults.append(("L3", node.lineno))
    if len(set(bound)) < len(bound):
        faults.append(("L15", 1))
    return faults


def import_faults(node):
    if isinstance(node, ast.Import):
        return [("L2", node.lineno)]
    good = node.level == 0 and (node.module or "").startswith("storeway.")
    good = good and all(piece.name != "*" for piece in node.names) and isinstance(node.above, ast.Module)
    return [] if good else [("L2", node.lineno)]


def def_faults(node, taken):
    faults = []
    given = node.args
    names = [piece.arg for piece in given.args]
    if given.vararg or given.kwarg or given.kwonlyargs or given.posonlyargs:
        faults.append(("L4", node.lineno))
    if any(not is_plain(value, ()) for value in given.defaults):
        faults.append(("L4", node.lineno))
    if any(piece.annotation for piece in given.args):
        faults.append(("L21", node.lineno))
    if isinstance(node, ast.FunctionDef):
        if node.decorator_list:
            faults.append(("L4", node.lineno))
        if node.end_lineno - node.lineno + 1 > 40:
            faults.append(("L10", node.lineno))
        # The rules list a docstring for a file's top alone.
        if isinstance(node.body[0], ast.Expr) and isinstance(node.body[0].value, ast.Constant):
            faults.append(("L6", node.lineno))
    stored = [piece.id for piece in ast.walk(node) if isinstance(piece, ast.Name) and isinstance(piece.ctx, ast.Store)]
    if any(name in taken or hasattr(builtins, name) for name in names + stored):
        faults.append(("L15", node.lineno))
    return faults


def class_faults(node):
    faults = []
    if node.decorator_list or node.keywords or len(node.bases) > 1:
        faults.append(("L5", node.lineno))
    if not isinstance(node.above, ast.Module):
        faults.append(("L15", node.lineno))
    if not all(isinstance(piece, (ast.FunctionDef, ast.Pass)) for piece in node.body):
        faults.append(("L5", node.lineno))
    methods = [piece.name for piece in node.body if isinstance(piece, ast.FunctionDef)]
    if len(set(methods)) < len(methods):
        faults.append(("L18", node.lineno))
    return faults


def name_faults(name, line):
    faults = []
    if not re.fullmatch(r"[A-Za-z][A-Za-z0-9_]*", name) and name not in DUNDERS:
        faults.append(("L12", line))
    if name in NOT_ANYWHERE:
        faults.append(("L17", line))
    return faults


def class_use_faults(node, classes):
    above = node.above
    if node.id not in classes or isinstance(above, (ast.ClassDef, ast.Raise, ast.ExceptHandler)):
        return []
    if isinstance(above, ast.Call) and above.func is node:
        return []
    if isinstance(above, ast.Attribute) and above.attr == "__init__":
        return []
    call = above.above if isinstance(above, ast.Tuple) else above
    if isinstance(call, ast.Call) and isinstance(call.func, ast.Name) and call.func.id == "isinstance":
        return []
    return [("L18", node.lineno)]


def walked_on_the_spot(node):
    above = node.above
    if isinstance(above, (ast.For, ast.comprehension)):
        return above.iter is node
    if not isinstance(above, ast.Call) or above.args[:1] != [node]:
        return False
    if isinstance(above.func, ast.Attribute):
        return above.func.attr == "join" and isinstance(above.func.value, ast.Constant)
    if above.func.id in ("min", "max"):
        return len(above.args) == 1
    return above.func.id in ("list", "tuple", "dict", "sorted", "sum", "any", "all", "enumerate", "zip")


def call_faults(node, methods):
    faults = []
    if isinstance(node.func, ast.Attribute):
        name = node.func.attr
        if name not in METHODS and name not in methods and name not in DUNDERS:
            faults.append(("L25", node.lineno))
        if name in ("items", "keys", "values") and not walked_on_the_spot(node):
            faults.append(("L23", node.lineno))
        if node.keywords:
            faults.append(("L22", node.lineno))
    if isinstance(node.func, ast.Name):
        if node.func.id in WALKED_AT_ONCE and not walked_on_the_spot(node):
            faults.append(("L23", node.lineno))
        if any(word.arg not in ("key", "reverse", "default", "start", "strict") for word in node.keywords):
            faults.append(("L22", node.lineno))
        if node.func.id in ("set", "frozenset"):
            faults.append(("L24", node.lineno))
    if any(isinstance(piece, ast.Starred) for piece in node.args):
        faults.append(("L7", node.lineno))
    return faults


def statement_faults(node):
    faults = []
    if not isinstance(node, STATEMENTS):
        faults.append(("L6", node.lineno))
    if isinstance(node, (ast.For, ast.While)) and node.orelse:
        faults.append(("L6", node.lineno))
    if isinstance(node, ast.Assign) and len(node.targets) > 1:
        faults.append(("L6", node.lineno))
    if isinstance(node, ast.Expr) and not isinstance(node.above, ast.Module):
        if not isinstance(node.value, ast.Call):
            faults.append(("L6", node.lineno))
    if isinstance(node, ast.Try):
        if node.finalbody or any(handler.type is None for handler in node.handlers):
            faults.append(("L6", node.lineno))
    if isinstance(node, ast.Raise) and not isinstance(node.exc, ast.Call):
        faults.append(("L19", node.lineno))
    if isinstance(node, ast.For):
        faults.extend(walk_faults(node))
    return faults


def walk_faults(loop):
    """A list that is walked by its own name, changed in its loop."""
    walked = [loop.iter]
    if isinstance(loop.iter, ast.Call):
        walked = list(loop.iter.args)
        if isinstance(loop.iter.func, ast.Attribute):
            walked.append(loop.iter.func.value)
    names = [ast.dump(piece) for piece in walked if isinstance(piece, (ast.Name, ast.Attribute))]
    if isinstance(loop.iter, ast.Call) and isinstance(loop.iter.func, ast.Name):
        if loop.iter.func.id in ("list", "sorted", "range"):
            names = []
    changes = ("append", "clear", "extend", "insert", "pop", "remove", "reverse", "setdefault", "update")
    for node in ast.walk(loop):
        if isinstance(node, ast.Attribute) and node.attr in changes and ast.dump(node.value) in names:
            return [("L23", node.lineno)]
        if isinstance(node, ast.Subscript) and isinstance(node.ctx, ast.Store) and ast.dump(node.value) in names:
            return [("L23", node.lineno)]
    return []


def expression_faults(node):
    faults = []
    if not isinstance(node, EXPRESSIONS):
        faults.append(("L7", node.lineno))
    if isinstance(node, ast.Constant):
        if not isinstance(node.value, (int, str, type(None))):
            faults.append(("L7", node.lineno))
        if isinstance(node.value, str) and "%" in node.value:
            faults.append(("L27", node.lineno))
    if isinstance(node, ast.BinOp):
        if isinstance(node.op, (ast.Div, ast.MatMult)):
            faults.append(("L7", node.lineno))
        if isinstance(node.op, ast.Pow) and not isinstance(node.right, ast.Constant):
            faults.append(("L27", node.lineno))
    if isinstance(node, ast.ListComp):
        if len(node.generators) > 1 or len(node.generators[0].ifs) > 1:
            faults.append(("L7", node.lineno))
    if isinstance(node, ast.FormattedValue):
        if not isinstance(node.value, ast.Name) or node.format_spec or node.conversion not in (-1, ord("r")):
            faults.append(("L7", node.lineno))
    if isinstance(node, ast.Compare):
        sides = [node.left] + node.comparators
        for place, sign in enumerate(node.ops):
            plain = [isinstance(side, ast.Constant) and side.value in (None, True, False) for side in sides]
            if isinstance(sign, (ast.Is, ast.IsNot)) and not plain[place + 1]:
                faults.append(("L20", node.lineno))
    return faults


def tops_changed(tree):
    """Lists and dicts of a file's top that a def changes, keeps or hands on."""
    kept = []
    for node in tree.body:
        if isinstance(node, ast.Assign) and isinstance(node.value, (ast.List, ast.Dict)):
            kept.append(node.targets[0].id)
    faults = []
    for node in ast.walk(tree):
        if isinstance(node, ast.Name) and node.id in kept and isinstance(node.ctx, ast.Load):
            above = node.above
            read = isinstance(above, (ast.For, ast.comprehension, ast.Compare))
            read = read or isinstance(above, ast.Subscript) and isinstance(above.ctx, ast.Load)
            read = read or isinstance(above, ast.Attribute) and above.attr in ("get", "items", "keys", "values", "index")
            read = read or isinstance(above, ast.Call) and getattr(above.func, "id", "") in OWN_NAMES
            if not read:
                faults.append(("L15", node.lineno))
    return faults


def own_names(trees):
    classes, methods, values = [], [], []
    for tree in trees:
        for node in ast.walk(tree):
            if isinstance(node, ast.ClassDef):
                classes.append(node.name)
                methods.extend(piece.name for piece in node.body if isinstance(piece, ast.FunctionDef))
            if isinstance(node, ast.Attribute) and isinstance(node.ctx, ast.Store):
                values.append(node.attr)
    return classes, methods, values


def whole_faults(trees):
    classes, methods, values = own_names(trees)
    faults = [("L18", name) for name in methods if name in values]
    faults += [("L26", name) for name in methods if name in OF_OWN_VALUES - METHODS - {"add", "discard"}]
    faults += [("L26", name) for name in values if name in OF_OWN_VALUES - VALUES_LIKE_OWN or name == "args"]
    return faults


def tree_faults(tree, classes, methods):
    taken = [node.name for node in tree.body if isinstance(node, ast.ClassDef)]
    for node in tree.body:
        if isinstance(node, ast.ImportFrom):
            taken.extend(piece.asname or piece.name for piece in node.names)
    local = {node.id for node in ast.walk(tree) if isinstance(node, ast.Name) and isinstance(node.ctx, ast.Store)}
    local |= {node.arg for node in ast.walk(tree) if isinstance(node, ast.arg)}
    local |= {node.name for node in ast.walk(tree) if isinstance(node, (ast.FunctionDef, ast.ClassDef))}
    faults = top_faults(tree) + tops_changed(tree)
    for node in ast.walk(tree):
        if isinstance(node, ast.stmt):
            faults += statement_faults(node)
        if isinstance(node, ast.expr):
            faults += expression_faults(node)
        if isinstance(node, (ast.Import, ast.ImportFrom)):
            faults += import_faults(node)
        if isinstance(node, (ast.FunctionDef, ast.Lambda)):
            faults += def_faults(node, taken)
        if isinstance(node, (ast.FunctionDef, ast.ClassDef)):
            faults += name_faults(node.name, node.lineno)
        if isinstance(node, ast.FunctionDef) and node.returns:
            faults.append(("L21", node.lineno))
        if isinstance(node, ast.ClassDef):
            faults += class_faults(node)
        if isinstance(node, ast.arg):
            faults += name_faults(node.arg, node.lineno)
        if isinstance(node, ast.Attribute):
            faults += name_faults(node.attr, node.lineno)
            if node.attr in METHODS | set(methods) and isinstance(node.ctx, ast.Load):
                called = isinstance(node.above, ast.Call) and node.above.func is node
                keyed = isinstance(node.above, ast.keyword)
                if not called and not keyed and node.attr not in VALUES_LIKE_OWN:
                    faults.append(("L25", node.lineno))
        if isinstance(node, ast.Name):
            faults += name_faults(node.id, node.lineno) + class_use_faults(node, classes)
            if node.id in NOT_AS_NAMES:
                faults.append(("L17", node.lineno))
            if node.id not in local and node.id not in taken and node.id not in OWN_NAMES:
                faults.append(("L8", node.lineno))
        if isinstance(node, ast.Call):
            faults += call_faults(node, methods)
    return faults


def drawn_from(tree):
    return [node.module for node in tree.body if isinstance(node, ast.ImportFrom)]


def faults_of(source):
    tree = parsed(source)
    classes, methods, values = own_names([tree])
    return text_faults(source) + whole_faults([tree]) + tree_faults(tree, classes, methods)


class Package(unittest.TestCase):
    def setUp(self):
        self.sources = {}
        for path in sorted(PACKAGE.glob("*.py")):
            self.sources[path.stem] = path.read_text(encoding="utf-8")
        self.trees = {name: parsed(self.sources[name]) for name in self.sources}

    def test_nothing_but_plain_files_lies_in_it(self):
        for path in PACKAGE.iterdir():
            if path.name != "__pycache__":
                self.assertRegex(path.name, r"\A([a-z][a-z0-9_]*|__init__|__main__)\.py\Z")
                self.assertNotIn(path.stem, set(dir(builtins)) - {"__init__"})
                self.assertNotIn(path.stem, NOT_AS_WORDS)
        self.assertIn("__init__", self.sources)

    def test_the_modules_are_there(self):
        for name in ("errors", "kinds", "works", "runs", "beats", "lags", "least", "fewest"):
            self.assertIn(name, self.sources)

    def test_the_texts(self):
        for name in self.sources:
            self.assertEqual(text_faults(self.sources[name]), [], name)

    def test_the_trees(self):
        classes, methods, values = own_names(self.trees.values())
        for name in self.trees:
            self.assertEqual(tree_faults(self.trees[name], classes, methods), [], name)

    def test_the_package_as_a_whole(self):
        self.assertEqual(whole_faults(self.trees.values()), [])

    def test_names_are_drawn_from_where_they_are_defined(self):
        for name in self.trees:
            for node in self.trees[name].body:
                if isinstance(node, ast.ImportFrom):
                    there = self.trees[node.module.partition(".")[2]].body
                    defined = [piece.name for piece in there if isinstance(piece, (ast.FunctionDef, ast.ClassDef))]
                    for piece in there:
                        if isinstance(piece, ast.Assign):
                            defined.append(piece.targets[0].id)
                    for piece in node.names:
                        self.assertIn(piece.name, defined, name)

    def test_no_two_files_draw_from_one_another(self):
        self.assertEqual(drawn_from(self.trees["__init__"]), [])
        left = {f"storeway.{name}": drawn_from(self.trees[name]) for name in self.trees}
        while left:
            free = [name for name in left if not any(other in left for other in left[name])]
            self.assertNotEqual(free, [], sorted(left))
            for name in free:
                del left[name]


class Checker(unittest.TestCase):
    """The walk over the trees sees what it is there to see."""

    def test_code_within_the_rules(self):
        self.assertEqual(faults_of('"""Top."""\n\nMOST = 3\n\n\ndef twice(number):\n    return 2 * number\n'), [])

    def test_code_outside_the_rules(self):
        for rule, source in (
            ("L2", "import random\n"), ("L2", "from os import path\n"), ("L2", "from .errors import BadRow\n"),
            ("L2", "from storeway.errors import *\n"), ("L3", "x = len([1])\n"), ("L3", "print(1)\n"),
            ("L4", "def f(*xs):\n    return xs\n"), ("L4", "def f(xs=len):\n    return xs\n"),
            ("L5", "class A:\n    x = 1\n"), ("L5", "class A(B, C):\n    pass\n"),
            ("L6", "def f(x):\n    with x:\n        pass\n"), ("L6", "def f(x):\n    assert x\n"),
            ("L6", "def f(x):\n    y = z = x\n    return y\n"), ("L6", "def f(x):\n    del x[0]\n"),
            ("L7", "def f(x):\n    return 1 / x\n"), ("L7", "def f(x):\n    return {y: y for y in x}\n"),
            ("L7", "def f(x):\n    return sum(y for y in x)\n"), ("L7", "def f(x):\n    return 1.5\n"),
            ("L7", "def f(x):\n    return f'{x:3}'\n"), ("L7", "def f(x):\n    return f'{x.y}'\n"),
            ("L8", "def f(x):\n    return chr(x)\n"), ("L8", "def f(x):\n    return hash(x)\n"),
            ("L10", "def f(x):\n" + "    x = x\n" * 40), ("L10", "# " + "x" * 120 + "\n"),
            ("L12", "def f(x):\n    _y = x\n    return _y\n"), ("L14", "# \u00e9\n"),
            ("L15", "def f(x):\n    sum = x\n    return sum\n"), ("L15", "A = 1\nA = 2\n"),
            ("L15", "A = [1]\n\n\ndef f(x):\n    A.append(x)\n"), ("L15", "A = [1]\n\n\ndef f():\n    return A\n"),
            ("L17", "# a type\n"), ("L17", "def f(x):\n    return x.open\n"),
            ("L18", "class A:\n    pass\n\n\ndef f():\n    return [A]\n"),
            ("L18", "class A:\n    def x(self):\n        return 1\n\n    def y(self):\n        self.x = 1\n"),
            ("L19", "def f(x):\n    raise x\n"), ("L20", "def f(x, y):\n    return x is y\n"),
            ("L21", "def f(x: int):\n    return x\n"), ("L23", "def f(x):\n    return zip(x, x)\n"),
            ("L23", "def f(x):\n    for y in x:\n        x.append(y)\n"),
            ("L23", "def f(x, y):\n    y.extend(x.values())\n"), ("L23", "def f(x):\n    return max(x.values(), 0)\n"),
            ("L23", "def f(x):\n    return f(range(x))\n"), ("L23", "def f(x):\n    return len(x.items())\n"),
            ("L23", "def f(x):\n    y = x.items()\n    return y\n"), ("L24", "def f(x):\n    y = set(x)\n    return y\n"),
            ("L25", "def f(x):\n    return x.isnumeric()\n"), ("L25", "def f(x):\n    return x.append\n"),
            ("L26", "class A:\n    def f(self):\n        self.items = 1\n"), ("L27", "def f(x):\n    return 2 ** x\n"),
        ):
            self.assertIn(rule, [fault[0] for fault in faults_of(source)], source)


if __name__ == "__main__":
    unittest.main()
