"""The package keeps to its part of Python, as far as a file's form shows it (rules L1 to L28)."""

import ast
import builtins
import pathlib
import re
import unittest

PACKAGE = pathlib.Path(__file__).resolve().parent.parent / "slicewise"

OWN_NAMES = set(
    "len range enumerate zip min max sum abs sorted reversed int str bool list tuple dict set frozenset isinstance"
    " ord repr any all divmod Exception ValueError TypeError KeyError IndexError LookupError ZeroDivisionError"
    " ArithmeticError OverflowError RuntimeError NotImplementedError StopIteration".split())
METHODS = set(
    "append clear copy count endswith extend find get index insert isalnum isalpha isdigit islower isspace isupper"
    " items join keys ljust lower lstrip partition pop remove replace reverse rfind rjust rpartition rsplit rstrip"
    " setdefault split splitlines startswith strip update upper values zfill bit_length".split())
NO_WORDS = re.compile(
    r"\b(type|typing|typing_extensions|enum|Enum|IntEnum|StrEnum|Flag|IntFlag|Generic|Protocol|ABC|ABCMeta|namedtuple"
    r"|NamedTuple|TypedDict|TYPE_CHECKING|abstractmethod)\b|dataclass|overload|contextmanager")
NO_NAMES = set("register mro elements open input version_info with_traceback add_note".split())
TWO_UNDERSCORES = set("__init__ __eq__ __repr__ __str__ __len__".split())
CHANGING = set("append clear extend insert pop remove reverse setdefault update".split())
WALKED = set("zip enumerate reversed range".split())
NODES = set(
    "Module FunctionDef ClassDef arguments arg Return Assign AugAssign For While If Raise Try ExceptHandler Expr Pass"
    " Break Continue ImportFrom alias BoolOp BinOp UnaryOp Lambda IfExp Dict List Tuple Set ListComp comprehension"
    " Compare Call keyword FormattedValue JoinedStr Constant Attribute Subscript Slice Name Load Store And Or Not"
    " Add Sub Mult FloorDiv Mod Pow LShift RShift BitOr BitXor BitAnd Invert UAdd USub Eq NotEq Lt LtE Gt GtE Is"
    " IsNot In NotIn".split())


def is_text(node):
    return isinstance(node, ast.Constant) and isinstance(node.value, str)


def check_signs(text):
    for number, line in enumerate(text.split("\n"), 1):
        if len(line) > 120:
            yield number, "L10 a line of more than 120 signs"
        if any(not " " <= sign <= "~" for sign in line):
            yield number, "L14 a sign that may not stand"
        if NO_WORDS.search(line):
            yield number, "L17 a word that may not stand"
    if text.count("\n") > 400:
        yield 401, "L10 a file of more than 400 lines"


def is_plain(node, known):
    if isinstance(node, ast.Constant):
        return True
    if isinstance(node, ast.UnaryOp) and isinstance(node.op, ast.USub):
        return isinstance(node.operand, ast.Constant)
    if isinstance(node, ast.Name):
        return node.id in known
    if isinstance(node, (ast.List, ast.Tuple)):
        return all(is_plain(part, known) for part in node.elts)
    if isinstance(node, ast.Dict):
        return all(is_plain(part, known) for part in node.keys + node.values)
    return False


def check_top(tree):
    known = set()
    for at, node in enumerate(tree.body):
        if isinstance(node, ast.ImportFrom):
            if node.level or node.names[0].name == "*" or node.module.split(".")[0] != "slicewise":
                yield node.lineno, "L2 an import of another kind"
            names = [part.asname or part.name for part in node.names]
        elif isinstance(node, (ast.FunctionDef, ast.ClassDef)):
            names = [node.name]
        elif isinstance(node, ast.Assign) and isinstance(node.targets[0], ast.Name):
            names = [node.targets[0].id]
            if not is_plain(node.value, known):
                yield node.lineno, "L3 no plain value"
        elif at == 0 and isinstance(node, ast.Expr) and is_text(node.value):
            names = []
        else:
            names = []
            yield node.lineno, "L3 something else at the top"
        for name in names:
            if name in known:
                yield node.lineno, "L15 a name bound twice"
            known.add(name)


def check_name(node, name):
    if name.startswith("_") and name not in TWO_UNDERSCORES:
        yield node.lineno, "L12 a name that begins with an underscore"
    if name in NO_NAMES:
        yield node.lineno, "L17 a name that is not used"


def check_def(node, tree):
    args = node.args
    if args.vararg or args.kwarg or args.kwonlyargs or args.posonlyargs or getattr(node, "decorator_list", []):
        yield node.lineno, "L4 a parameter or decorator of another kind"
    if node.end_lineno - node.lineno >= 40:
        yield node.lineno, "L10 a def of more than 40 lines"
    taken = {part.asname or part.name for row in tree.body if isinstance(row, ast.ImportFrom) for part in row.names}
    taken |= {row.name for row in tree.body if isinstance(row, ast.ClassDef)} | set(dir(builtins))
    local = [part.arg for part in args.args]
    local += [part.id for part in ast.walk(node) if isinstance(part, ast.Name) and isinstance(part.ctx, ast.Store)]
    for name in local:
        if name in taken:
            yield node.lineno, f"L15 a local called {name}"


def check_class(node):
    if len(node.bases) > 1 or node.keywords or node.decorator_list:
        yield node.lineno, "L5 a class of another kind"
    for part in node.body:
        if not isinstance(part, (ast.FunctionDef, ast.Pass)):
            yield part.lineno, "L5 a value in a class"


def check_call(node, parents):
    target = node.func
    if isinstance(target, ast.Name) and target.id == "set":
        parent = parents[node]
        beside = isinstance(parent, (ast.Compare, ast.BinOp))
        within = isinstance(parent, ast.Call) and getattr(parent.func, "id", "") in ("sorted", "len")
        if not beside and not within:
            yield node.lineno, "L24 a set that is kept or walked"
    if isinstance(target, ast.Name) and target.id in WALKED and isinstance(parents[node], (ast.Assign, ast.Return)):
        yield node.lineno, "L23 not walked at once"


def check_attribute(node, own, parents):
    if node.attr in own or node.attr in TWO_UNDERSCORES:
        return
    parent = parents[node]
    if node.attr not in METHODS or not isinstance(parent, ast.Call) or parent.func != node:
        yield node.lineno, "L25 a method or value of another kind"


def own_values(tree):
    return {part.attr for part in ast.walk(tree) if isinstance(part, ast.Attribute) and isinstance(part.ctx, ast.Store)}


def own_methods(tree):
    classes = [node for node in tree.body if isinstance(node, ast.ClassDef)]
    return {part.name for node in classes for part in node.body if isinstance(part, ast.FunctionDef)}


def check_own(values):
    for kind in (str, int, list, dict, set, bytes, tuple):
        for name in values & set(dir(kind)) - {"count", "index", "title", "find", "get", "join", "lower", "upper", "split",
                                               "strip", "copy", "add"}:
            yield 0, f"L26 a value called {name}"


def check_nodes(tree, values):
    own = own_values(tree) | own_methods(tree) | values
    yield from check_own(own_values(tree))
    bound = {part.id for part in ast.walk(tree) if isinstance(part, ast.Name) and isinstance(part.ctx, ast.Store)}
    parents = {part: node for node in ast.walk(tree) for part in ast.iter_child_nodes(node)}
    for node in ast.walk(tree):
        if node.__class__.__name__ not in NODES:
            yield getattr(node, "lineno", 0), f"L6 L7 a {node.__class__.__name__}"
        if isinstance(node, (ast.FunctionDef, ast.Lambda)):
            yield from check_def(node, tree)
        if isinstance(node, (ast.FunctionDef, ast.ClassDef)):
            yield from check_name(node, node.name)
        if isinstance(node, ast.ClassDef):
            yield from check_class(node)
        if isinstance(node, ast.Name):
            yield from check_name(node, node.id)
            if hasattr(builtins, node.id) and node.id not in OWN_NAMES | bound:
                yield node.lineno, f"L8 the name {node.id}"
        if isinstance(node, ast.arg):
            yield from check_name(node, node.arg)
        if isinstance(node, ast.Call):
            yield from check_call(node, parents)
        if isinstance(node, ast.Attribute):
            yield from check_name(node, node.attr)
            yield from check_attribute(node, own, parents)
        yield from check_small(node, parents)


def check_small(node, parents):
    if isinstance(node, ast.Assign) and len(node.targets) > 1:
        yield node.lineno, "L6 two targets"
    if isinstance(node, (ast.For, ast.While)) and node.orelse:
        yield node.lineno, "L6 an else behind a loop"
    if isinstance(node, ast.Try) and node.finalbody:
        yield node.lineno, "L6 a finally"
    if isinstance(node, ast.ExceptHandler) and (node.type is None or "Exception" in ast.dump(node.type)):
        yield node.lineno, "L19 an except of all"
    if isinstance(node, ast.Expr) and not isinstance(node.value, ast.Call) and not isinstance(parents[node], ast.Module):
        yield node.lineno, "L6 a value by itself"
    if isinstance(node, ast.ListComp) and (len(node.generators) > 1 or len(node.generators[0].ifs) > 1):
        yield node.lineno, "L7 a comprehension with more than one for or if"
    if isinstance(node, ast.Constant) and isinstance(node.value, (float, complex, bytes)):
        yield node.lineno, "L7 a value of another kind"
    if is_text(node) and ("%" in node.value or any(not " " <= sign <= "~" and sign not in "\n\t" for sign in node.value)):
        yield node.lineno, "L27 a sign within a text"
    if isinstance(node, ast.FormattedValue) and (not isinstance(node.value, ast.Name) or node.format_spec):
        yield node.lineno, "L7 an f-string that is not plain"
    if isinstance(node, ast.BinOp) and isinstance(node.op, ast.Pow) and not isinstance(node.right, ast.Constant):
        yield node.lineno, "L27 an exponent that is not written"
    if isinstance(node, ast.Compare) and any(isinstance(part, (ast.Is, ast.IsNot)) for part in node.ops):
        right = node.comparators[0]
        if not isinstance(right, ast.Constant) or right.value not in (None, True, False):
            yield node.lineno, "L20 is beside something else"


def root_name(node):
    while isinstance(node, (ast.Attribute, ast.Subscript)):
        node = node.value
    return node.id if isinstance(node, ast.Name) else None


def walked_names(node):
    """The names of what a loop walks, itself or through enumerate, zip, reversed, items."""
    if isinstance(node, ast.Call) and isinstance(node.func, ast.Name) and node.func.id in ("enumerate", "zip", "reversed"):
        return {name for part in node.args for name in walked_names(part)}
    if isinstance(node, ast.Call) and isinstance(node.func, ast.Attribute) and node.func.attr in ("items", "keys", "values"):
        return walked_names(node.func.value)
    return {ast.unparse(node)} if isinstance(node, (ast.Name, ast.Attribute)) else set()


def check_loops(tree):
    for loop in [node for node in ast.walk(tree) if isinstance(node, ast.For)]:
        walked = walked_names(loop.iter)
        for node in [part for row in loop.body for part in ast.walk(row)]:
            if isinstance(node, ast.Call) and isinstance(node.func, ast.Attribute) and node.func.attr in CHANGING:
                if ast.unparse(node.func.value) in walked:
                    yield node.lineno, "L23 what a loop walks is changed in it"
            if isinstance(node, ast.Subscript) and isinstance(node.ctx, ast.Store) and ast.unparse(node.value) in walked:
                yield node.lineno, "L23 what a loop walks is changed in it"


def check_kept(tree):
    """Lists and dicts of the file's top are only read."""
    kept = {node.targets[0].id for node in tree.body if isinstance(node, ast.Assign)
            and isinstance(node.value, (ast.List, ast.Dict))}
    for node in ast.walk(tree):
        if isinstance(node, ast.Call) and isinstance(node.func, ast.Attribute) and node.func.attr in CHANGING:
            if root_name(node.func.value) in kept:
                yield node.lineno, "L15 a list or dict of the top is changed"
        if isinstance(node, ast.Subscript) and isinstance(node.ctx, ast.Store) and root_name(node.value) in kept:
            yield node.lineno, "L15 a list or dict of the top is changed"
        if isinstance(node, ast.Return) and isinstance(node.value, ast.Name) and node.value.id in kept:
            yield node.lineno, "L15 a list or dict of the top is given back"


def faults(text, values=frozenset()):
    tree = ast.parse(text)
    told = list(check_signs(text)) + list(check_top(tree)) + list(check_nodes(tree, set(values)))
    return sorted(set(told + list(check_loops(tree)) + list(check_kept(tree))))


def drawn(text):
    return [row.module for row in ast.parse(text).body if isinstance(row, ast.ImportFrom)]


class Package(unittest.TestCase):
    def files(self):
        return sorted(path for path in PACKAGE.iterdir() if path.name != "__pycache__")

    def test_files(self):
        self.assertIn("__init__.py", [path.name for path in self.files()])
        for path in self.files():
            self.assertTrue(path.is_file() and re.fullmatch(r"[a-z][a-z0-9_]*\.py|__init__\.py", path.name), path)

    def trees(self):
        return {"slicewise." + path.stem: ast.parse(path.read_text(encoding="utf-8")) for path in self.files()}

    def test_each_file(self):
        values = {name for tree in self.trees().values() for name in own_values(tree)}
        for path in self.files():
            self.assertEqual(faults(path.read_text(encoding="utf-8"), values), [], path.name)

    def test_no_name_is_a_method_and_a_value(self):
        values = {name for tree in self.trees().values() for name in own_values(tree)}
        methods = {name for tree in self.trees().values() for name in own_methods(tree)}
        self.assertEqual(values & methods, set())

    def test_names_are_drawn_from_the_file_that_defines_them(self):
        trees = self.trees()
        for name, tree in trees.items():
            for row in [row for row in tree.body if isinstance(row, ast.ImportFrom)]:
                defined = [part for part in trees[row.module].body if not isinstance(part, (ast.ImportFrom, ast.Expr))]
                names = {part.targets[0].id if isinstance(part, ast.Assign) else part.name for part in defined}
                for part in row.names:
                    self.assertIn(part.name, names, name)
                    used = [node for node in ast.walk(tree) if isinstance(node, ast.Name) and node.id == part.name]
                    self.assertTrue(used, f"{name} draws {part.name} for nothing")

    def test_no_two_files_draw_from_one_another(self):
        left = {"slicewise." + path.stem: drawn(path.read_text(encoding="utf-8")) for path in self.files()}
        while left:
            free = [name for name in left if not any(other in left for other in left[name])]
            self.assertTrue(free, sorted(left))
            left = {name: left[name] for name in left if name not in free}


class Checker(unittest.TestCase):
    def test_what_keeps_to_the_rules(self):
        for text in ["", '"""A text."""\n', "A = (1, -2)\nB = {'a': A}\n", "def f(a, b=1):\n    return [a, b]\n",
                     "class A(ValueError):\n    pass\n", "def f(xs):\n    return sorted(set(xs))\n"]:
            self.assertEqual(faults(text), [], text)

    def test_what_does_not(self):
        for text, rule in [
            ("import sys\n", "L3"), ("from os import path\n", "L2"), ("A = f()\n", "L3"), ("A = 10 ** 30\n", "L3"),
            ("A = 1\nA = 2\n", "L15"), ("def f(*a):\n    pass\n", "L4"), ("def f():\n    'words'\n", "L6"),
            ("def f(a):\n    x = y = a\n", "L6"), ("def f(a):\n    return a / 2\n", "L6"), ("A = 1.5\n", "L7"),
            ("def f(a):\n    return {b for b in a}\n", "L6"), ("def f(a):\n    return hash(a)\n", "L8"),
            ("def f(min):\n    return min\n", "L15"), ("def f(a):\n    open = a\n    return a\n", "L15"),
            ("# type\n", "L17"), ("A = '\u00e9'\n", "L14"), ("A = 'a%b'\n", "L27"), ("def _f():\n    pass\n", "L12"),
            ("def f(a):\n    return a is 'x'\n", "L20"), ("def f(a):\n    a.sort()\n", "L25"),
            ("def f(a):\n    b = set(a)\n    return b\n", "L24"), ("def f(a):\n    return zip(a, a)\n", "L23"),
            ("class A:\n    b = 1\n", "L5"), ("def f(a):\n    for b in a:\n        a.append(b)\n", "L23"),
            ("def f(a):\n    for b, c in a.items():\n        a[b] = c\n", "L23"),
            ("A = {}\n\n\ndef f(a):\n    A[a] = 1\n", "L15"), ("A = []\n\n\ndef f(a):\n    A.append(a)\n", "L15"),
            ("A = []\n\n\ndef f():\n    return A\n", "L15"), ("def f(a):\n    a.items = 1\n", "L26"), ("#" * 121 + "\n", "L10"), ("def f():\n" + "    g()\n" * 40, "L10"),
        ]:
            self.assertIn(rule, [fault.split()[0] for number, fault in faults(text)], text)


if __name__ == "__main__":
    unittest.main()
