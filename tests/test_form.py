"""The form of the package's files: what can be seen of rules L1 to L28."""

import ast
import builtins
import pathlib
import re
import unittest

PACKAGE = pathlib.Path(__file__).resolve().parent.parent / "furrow"

NODES = """Module FunctionDef ClassDef arguments arg Return Assign AugAssign For While If Raise Try
ExceptHandler Expr Pass Break Continue ImportFrom alias BoolOp And Or BinOp UnaryOp Not USub UAdd
Invert Add Sub Mult FloorDiv Mod Pow BitAnd BitOr BitXor LShift RShift Lambda IfExp Dict List Tuple
Set ListComp comprehension Compare Eq NotEq Lt LtE Gt GtE Is IsNot In NotIn Call keyword JoinedStr
FormattedValue Constant Attribute Subscript Slice Name Load Store""".split()
PYTHON_NAMES = """len range enumerate zip min max sum abs sorted reversed int str bool list tuple dict
set frozenset isinstance ord repr any all divmod Exception ValueError TypeError KeyError IndexError
LookupError ZeroDivisionError ArithmeticError OverflowError RuntimeError NotImplementedError
AttributeError StopIteration""".split()
PYTHON_METHODS = """append clear copy count endswith extend find get index insert isalnum isalpha
isdigit islower isspace isupper items join keys ljust lower lstrip partition pop remove replace
reverse rfind rjust rpartition rsplit rstrip setdefault split splitlines startswith strip update
upper values zfill bit_length""".split()
OWN_METHODS = ("__init__", "__eq__", "__repr__", "__str__", "__len__")
VALUE_NAMES = "count index title find get join lower upper split strip copy add".split()
WORDS = """typing typing_extensions enum Enum IntEnum StrEnum Flag IntFlag Generic Protocol ABC
ABCMeta namedtuple NamedTuple TypedDict TYPE_CHECKING abstractmethod type""".split()
WORD_PARTS = ("dataclass", "overload", "contextmanager")
UNUSED = """register mro elements open input version_info with_traceback add_note attrgetter
breakpoint builtins compile copyright credits delattr dir eval exec exit gc getattr globals hasattr
help id importlib license locals methodcaller os quit setattr super vars sys""".split()
FILE_WORDS = "test tests testing site conftest sitecustomize usercustomize".split()
LAZY = ("zip", "enumerate", "reversed", "range")
WALKERS = ("list", "tuple", "dict", "sorted", "sum", "any", "all", "enumerate", "zip")
KEYWORDS = {"sorted": ("key", "reverse"), "min": ("key", "default"), "max": ("key", "default"),
            "sum": ("start",), "enumerate": ("start",), "zip": ("strict",)}
CHANGES = "append clear extend insert pop remove reverse setdefault update".split()
READS = "get index count items keys values copy".split()
KINDS_OF_PYTHON = (str, int, list, dict, set, bytes, tuple)


def text_faults(source):
    """L10, L14, L17: what is told by the signs alone."""
    rows = source.split("\n")
    if len(rows) > 401:
        yield "L10", 401
    for number, row in enumerate(rows, 1):
        if len(row) > 120 or "\t" in row:
            yield "L10", number
        if not all(" " <= sign <= "~" for sign in row):
            yield "L14", number
        words = re.findall(r"\w+", row)
        if set(words) & set(WORDS) or any(part in row for part in WORD_PARTS):
            yield "L17", number


def plain(node, defs):
    """Whether a value may stand at a file's top (L3, L15)."""
    if isinstance(node, ast.Constant):
        return True
    if isinstance(node, ast.Name):
        return node.id in defs
    if isinstance(node, ast.UnaryOp):
        return isinstance(node.op, ast.USub) and plain(node.operand, defs)
    if isinstance(node, ast.Dict):
        return all(plain(part, defs) for part in node.keys + node.values)
    return isinstance(node, (ast.List, ast.Tuple)) and all(plain(part, defs) for part in node.elts)


def top_faults(tree):
    """L2, L3, L15, L16: the statements at a file's top."""
    bound, defs, past_imports = [], [], False
    for number, node in enumerate(tree.body):
        if isinstance(node, ast.ImportFrom):
            if past_imports or node.level or not (node.module or "").startswith("furrow."):
                yield "L2", node.lineno
            if any(alias.name == "*" for alias in node.names):
                yield "L2", node.lineno
            bound += [alias.asname or alias.name for alias in node.names]
            continue
        docstring = isinstance(node, ast.Expr) and isinstance(node.value, ast.Constant)
        if docstring and number == 0:
            continue
        past_imports = True
        if isinstance(node, (ast.FunctionDef, ast.ClassDef)):
            bound.append(node.name)
            if isinstance(node, ast.FunctionDef):
                defs.append(node.name)
        elif isinstance(node, ast.Assign) and isinstance(node.targets[0], ast.Name):
            bound.append(node.targets[0].id)
            if not plain(node.value, defs):
                yield "L3", node.lineno
        else:
            yield "L3", node.lineno
    if len(bound) != len(set(bound)):
        yield "L15", 1


def def_faults(node):
    """L4, L10, L21: one def."""
    args = node.args
    if node.decorator_list or args.vararg or args.kwarg or args.kwonlyargs or args.posonlyargs:
        yield "L4", node.lineno
    if node.end_lineno - node.lineno >= 40:
        yield "L10", node.lineno
    if node.returns or any(arg.annotation for arg in args.args):
        yield "L21", node.lineno


def class_faults(node):
    """L5, L18: one class."""
    if node.decorator_list or node.keywords or len(node.bases) > 1:
        yield "L5", node.lineno
    names = []
    for part in node.body:
        if isinstance(part, ast.FunctionDef):
            names.append(part.name)
            if part.name.startswith("__") and part.name not in OWN_METHODS:
                yield "L5", part.lineno
        elif not isinstance(part, ast.Pass):
            yield "L5", part.lineno
    if len(names) != len(set(names)):
        yield "L18", node.lineno


def statement_faults(node):
    """L6, L19: one statement that is no def and no class."""
    if isinstance(node, (ast.For, ast.While)) and node.orelse:
        yield "L6", node.lineno
    if isinstance(node, ast.Try) and node.finalbody:
        yield "L6", node.lineno
    if isinstance(node, ast.Assign) and len(node.targets) != 1:
        yield "L6", node.lineno
    if isinstance(node, ast.Expr) and not isinstance(node.value, (ast.Call, ast.Constant)):
        yield "L6", node.lineno
    if isinstance(node, ast.ExceptHandler):
        names = [part.id for part in ast.walk(node.type or node) if isinstance(part, ast.Name)]
        if node.type is None or "Exception" in names or "TypeError" in names:
            yield "L19", node.lineno


def expression_faults(node):
    """L7, L20, L27: one expression."""
    if isinstance(node, ast.Constant):
        if not isinstance(node.value, (int, str, type(None))):
            yield "L7", node.lineno
        if isinstance(node.value, str) and "%" in node.value:
            yield "L27", node.lineno
    if isinstance(node, ast.ListComp):
        if len(node.generators) != 1 or len(node.generators[0].ifs) > 1:
            yield "L7", node.lineno
    if isinstance(node, ast.FormattedValue):
        if not isinstance(node.value, ast.Name) or node.format_spec:
            yield "L7", node.lineno
    if isinstance(node, ast.BinOp) and isinstance(node.op, ast.Pow):
        if not isinstance(node.right, ast.Constant):
            yield "L27", node.lineno
    if isinstance(node, ast.Compare):
        for op, right in zip(node.ops, node.comparators):
            if isinstance(op, (ast.Is, ast.IsNot)):
                if not (isinstance(right, ast.Constant) and right.value in (None, True, False)):
                    yield "L20", node.lineno


def bound_names(node):
    if isinstance(node, (ast.FunctionDef, ast.ClassDef)):
        return [node.name]
    if isinstance(node, ast.arg):
        return [node.arg]
    if isinstance(node, ast.Name) and isinstance(node.ctx, ast.Store):
        return [node.id]
    if isinstance(node, ast.ExceptHandler) and node.name:
        return [node.name]
    return []


def name_faults(node, own_methods):
    """L8, L12, L15, L17, L25, L26: the names that a node binds or uses."""
    for name in bound_names(node):
        if name.startswith("_") and name not in OWN_METHODS:
            yield "L12", node.lineno
        if name in dir(builtins) or name in PYTHON_NAMES:
            yield "L15", node.lineno
        if name in UNUSED:
            yield "L17", node.lineno
    if isinstance(node, ast.Name):
        if node.id in UNUSED:
            yield "L17", node.lineno
        elif node.id in dir(builtins) and node.id not in PYTHON_NAMES:
            yield "L8", node.lineno
    if isinstance(node, ast.Attribute):
        if node.attr in UNUSED or (node.attr.startswith("_") and node.attr != "__init__"):
            yield "L17", node.lineno
        if isinstance(node.ctx, ast.Store) and node.attr not in VALUE_NAMES:
            if any(hasattr(kind, node.attr) for kind in KINDS_OF_PYTHON):
                yield "L26", node.lineno
    if isinstance(node, ast.Call) and isinstance(node.func, ast.Attribute):
        if node.func.attr not in PYTHON_METHODS and node.func.attr not in own_methods:
            yield "L25", node.lineno


def parents_of(tree):
    return {child: node for node in ast.walk(tree) for child in ast.iter_child_nodes(node)}


def called(node):
    """The name of what a call calls, where it is a name."""
    return node.func.id if isinstance(node, ast.Call) and isinstance(node.func, ast.Name) else None


def called_method(node):
    call = isinstance(node, ast.Call) and isinstance(node.func, ast.Attribute)
    return node.func.attr if call else None


def walked(node, parent):
    """Whether what a node makes is walked on the spot (L23)."""
    if isinstance(parent, (ast.For, ast.comprehension)):
        return parent.iter is node
    if called(parent) in WALKERS:
        return parent.args[:1] == [node] or called(parent) == "zip"
    if called(parent) in ("min", "max"):
        return parent.args == [node]
    return called_method(parent) == "join" and isinstance(parent.func.value, ast.Constant)


def set_in_place(node, parents):
    """Whether a set stands where one may (L24)."""
    parent = parents[node]
    while isinstance(parent, ast.BinOp):
        node, parent = parent, parents[parent]
    if isinstance(parent, ast.Compare):
        return all(isinstance(op, (ast.In, ast.NotIn, ast.Eq, ast.NotEq)) for op in parent.ops)
    return called(parent) in ("sorted", "len") and not parent.keywords


def placed_faults(tree):
    """L22, L23, L24: what hangs on where a call stands."""
    parents = parents_of(tree)
    for node in ast.walk(tree):
        if called(node) in LAZY or called_method(node) in ("items", "keys", "values"):
            if not walked(node, parents[node]):
                yield "L23", node.lineno
        if called(node) in ("set", "frozenset") or isinstance(node, ast.Set):
            if not set_in_place(node, parents):
                yield "L24", node.lineno
        if called(node) in PYTHON_NAMES or called_method(node) in PYTHON_METHODS:
            if any(word.arg not in KEYWORDS.get(called(node), ()) for word in node.keywords):
                yield "L22", node.lineno
        kept = isinstance(node, ast.Name) and node.id in LAZY + WALKERS
        if kept and not (called(parents[node]) and parents[node].func is node):
            if not isinstance(parents[node], (ast.keyword, ast.Tuple)) and called(parents[node]) != "isinstance":
                yield "L22", node.lineno


def changed_in_its_walk(node):
    """Whether a loop changes what it walks (L23)."""
    walked_names = [part.id for part in ast.walk(node.iter) if isinstance(part, ast.Name)]
    for part in [part for row in node.body for part in ast.walk(row)]:
        owner = None
        if called_method(part) in CHANGES:
            owner = part.func.value
        elif isinstance(part, ast.Subscript) and isinstance(part.ctx, ast.Store):
            owner = part.value
        straight = isinstance(node.iter, ast.Name) or called(node.iter) in ("enumerate", "zip", "reversed")
        if straight and isinstance(owner, ast.Name) and owner.id in walked_names:
            return True
    return False


def kept_faults(tree):
    """L15, L23: names that hide others, and lists and dicts that may only be read."""
    hidden = {alias.asname or alias.name for node in tree.body if isinstance(node, ast.ImportFrom)
              for alias in node.names}
    hidden |= {node.name for node in tree.body if isinstance(node, ast.ClassDef)}
    kept = {node.targets[0].id for node in tree.body
            if isinstance(node, ast.Assign) and isinstance(node.value, (ast.List, ast.Dict))}
    parents = parents_of(tree)
    for node in ast.walk(tree):
        within = parents.get(node) is not tree and not isinstance(node, ast.ClassDef)
        if within and set(bound_names(node)) & hidden:
            yield "L15", node.lineno
        if isinstance(node, ast.Name) and node.id in kept and isinstance(node.ctx, ast.Load):
            parent = parents[node]
            indexed = isinstance(parent, ast.Subscript) and isinstance(parent.ctx, ast.Load)
            asked = isinstance(parent, ast.Attribute) and parent.attr in READS
            if not (indexed or asked or isinstance(parent, (ast.Compare, ast.For, ast.comprehension))
                    or called(parent) in WALKERS + ("len",)):
                yield "L15", node.lineno
        if isinstance(node, ast.For) and changed_in_its_walk(node):
            yield "L23", node.lineno


def taken_faults(tree):
    """L19: errors of Python's own are taken only in a try with one plain step in it."""
    for node in ast.walk(tree):
        if not isinstance(node, ast.Try):
            continue
        names = {part.id for handler in node.handlers for part in ast.walk(handler.type or handler)
                 if isinstance(part, ast.Name)}
        if names & {"ValueError", "LookupError", "IndexError"} and len(node.body) != 1:
            yield "L19", node.lineno


def nested_faults(tree):
    """L15: a list or dict of a file's top holds tuples, no lists or dicts."""
    for node in tree.body:
        if isinstance(node, ast.Assign) and isinstance(node.value, (ast.List, ast.Dict)):
            inner = [part for part in ast.walk(node.value) if part is not node.value]
            if any(isinstance(part, (ast.List, ast.Dict)) for part in inner):
                yield "L15", node.lineno


def class_names(tree):
    """Names of classes, own ones and drawn ones; these are told from defs and numbers by their capitals."""
    drawn = [alias.name for node in tree.body if isinstance(node, ast.ImportFrom) for alias in node.names]
    own = [node.name for node in tree.body if isinstance(node, ast.ClassDef)]
    return own + [name for name in drawn if name[0].isupper() and not name.isupper()]


def object_faults(tree):
    """L18, L28: classes that are handed on, and an __init__ that gives something back."""
    parents, names = parents_of(tree), class_names(tree)
    for node in ast.walk(tree):
        if isinstance(node, ast.Name) and node.id in names and isinstance(node.ctx, ast.Load):
            parent = parents[node]
            if isinstance(parent, ast.Tuple):
                parent = parents[parent]
            called_one = isinstance(parent, ast.Call) and parent.func is node
            base = isinstance(parent, ast.Attribute) and parent.attr == "__init__"
            if not (called_one or base or called(parent) == "isinstance"
                    or isinstance(parent, (ast.ClassDef, ast.ExceptHandler, ast.Raise))):
                yield "L18", node.lineno
        if isinstance(node, ast.FunctionDef) and node.name == "__init__":
            if any(isinstance(part, ast.Return) and part.value for part in ast.walk(node)):
                yield "L28", node.lineno


def faults_of(source, own_methods=OWN_METHODS):
    """The faults of one file, as pairs of a rule and a row."""
    tree = ast.parse(source)
    found = list(text_faults(source)) + list(top_faults(tree)) + list(placed_faults(tree))
    found += list(kept_faults(tree)) + list(taken_faults(tree))
    found += list(nested_faults(tree)) + list(object_faults(tree))
    for node in ast.walk(tree):
        if type(node).__name__ not in NODES:
            found.append(("L6, L7", getattr(node, "lineno", 0)))
        if isinstance(node, ast.FunctionDef):
            found += def_faults(node)
        if isinstance(node, ast.ClassDef):
            found += class_faults(node)
        found += statement_faults(node)
        found += expression_faults(node)
        found += name_faults(node, own_methods)
    return found


def package_files():
    return sorted(path for path in PACKAGE.rglob("*") if "__pycache__" not in path.parts)


def trees():
    return {path.stem: ast.parse(path.read_text("utf-8")) for path in package_files()}


def methods_and_values():
    methods, values = set(), set()
    for tree in trees().values():
        for node in ast.walk(tree):
            if isinstance(node, ast.ClassDef):
                methods |= {part.name for part in node.body if isinstance(part, ast.FunctionDef)}
            if isinstance(node, ast.Attribute) and isinstance(node.ctx, ast.Store):
                values.add(node.attr)
    return methods, values


class ThePackage(unittest.TestCase):
    def test_it_holds_nothing_but_files_with_plain_names(self):
        self.assertIn(PACKAGE / "__init__.py", package_files())
        for path in package_files():
            with self.subTest(path=path.name):
                self.assertRegex(path.name, r"^([a-z][a-z0-9_]*|__init__)\.py$")
                self.assertFalse(path.stem.startswith("test_"))
                self.assertNotIn(path.stem, FILE_WORDS + WORDS + dir(builtins))

    def test_each_file_keeps_to_the_rules(self):
        methods, _ = methods_and_values()
        for path in package_files():
            with self.subTest(path=path.name):
                self.assertEqual(faults_of(path.read_text("utf-8"), methods), [])

    def test_no_name_is_a_method_and_a_value(self):
        methods, values = methods_and_values()
        self.assertEqual(methods & values, set())

    def test_names_are_drawn_from_the_very_file_that_defines_them(self):
        made = {stem: {name for node in tree.body for part in [node, *getattr(node, "targets", [])]
                       for name in bound_names(part)}
                for stem, tree in trees().items()}
        for tree in trees().values():
            for node in tree.body:
                if isinstance(node, ast.ImportFrom):
                    for alias in node.names:
                        self.assertIn(alias.name, made[node.module.partition(".")[2]])

    def test_no_two_files_draw_from_one_another(self):
        draws = {stem: {node.module.partition(".")[2] for node in tree.body
                        if isinstance(node, ast.ImportFrom)}
                 for stem, tree in trees().items()}
        while draws:
            free = [stem for stem in draws if not draws[stem] & set(draws)]
            self.assertTrue(free, f"drawn in a ring: {sorted(draws)}")
            for stem in free:
                draws.pop(stem)


WRONG = (
    ("import sys\n", "L6, L7"),
    ("from os import path\n", "L2"),
    ("from furrow.terms import *\n", "L2"),
    ("a = len('x')\n", "L3"),
    ("a = 1\na = 2\n", "L15"),
    ("def f(*xs):\n    return xs\n", "L4"),
    ("def f(x: int):\n    return x\n", "L21"),
    ("def f():\n" + "    pass\n" * 40, "L10"),
    ("class A:\n    x = 1\n", "L5"),
    ("class A:\n    def __hash__(self):\n        return 1\n", "L5"),
    ("def f():\n    a = b = 1\n", "L6"),
    ("def f():\n    yield 1\n", "L6, L7"),
    ("def f():\n    for x in []:\n        pass\n    else:\n        pass\n", "L6"),
    ("def f():\n    return 1.5\n", "L7"),
    ("def f():\n    return 1 / 2\n", "L6, L7"),
    ("def f():\n    return {x for x in []}\n", "L6, L7"),
    ("def f():\n    return map(f, [])\n", "L8"),
    ("def f(list):\n    return list\n", "L15"),
    ("def _f():\n    return 1\n", "L12"),
    ("# a type\n", "L17"),
    ("# caf\xe9\n", "L14"),
    ("def f(x):\n    return x is 3\n", "L20"),
    ("def f(x):\n    return x.casefold()\n", "L25"),
    ("def f(x):\n    x.values = 1\n", "L26"),
    ("def f(x):\n    return 2 ** x\n", "L27"),
    ("def f():\n    try:\n        f()\n    except Exception:\n        pass\n", "L19"),
    ("def f(x):\n    try:\n        x = 1\n        int(x)\n    except ValueError:\n        pass\n", "L19"),
    ("from furrow.terms import placed\n\n\ndef f(placed):\n    return placed\n", "L15"),
    ("class A:\n    pass\n\n\ndef f():\n    A = 1\n    return A\n", "L15"),
    ("A = {}\n\n\ndef f():\n    A[1] = 2\n", "L15"),
    ("A = []\n\n\ndef f():\n    return A\n", "L15"),
    ("A = []\n\n\ndef f():\n    A.append(1)\n", "L15"),
    ("def f(x):\n    return x.split(sep=' ')\n", "L22"),
    ("def f(x):\n    return int(x, base=2)\n", "L22"),
    ("def f():\n    return sorted\n", "L22"),
    ("def f():\n    return range(3)\n", "L23"),
    ("def f(x):\n    y = zip(x, x)\n    return list(y)\n", "L23"),
    ("def f(x):\n    return x.items()\n", "L23"),
    ("def f(x):\n    return 3 in range(x)\n", "L23"),
    ("def f(x):\n    for y in x:\n        x.append(y)\n", "L23"),
    ("def f(x):\n    for y, z in enumerate(x):\n        x[y] = z\n", "L23"),
    ("def f(x):\n    y = set(x)\n    return y\n", "L24"),
    ("def f(x):\n    for y in set(x):\n        pass\n", "L24"),
    ("A = {1: [2]}\n", "L15"),
    ("A = [1, {}]\n", "L15"),
    ("class A:\n    pass\n\n\ndef f():\n    return A\n", "L18"),
    ("from furrow.deeds import Deed\n\n\ndef f(x):\n    return [Deed, x]\n", "L18"),
    ("class A:\n    def __init__(self):\n        return None\n", "L28"),
)


RIGHT = (
    '"""Top."""\n\nA = (1, -2)\n\n\ndef f(x):\n    return [y + 1 for y in x if y > 0]\n',
    "A = {1: 2}\n\n\ndef f(x):\n    return A[x] + A.get(x, 0) + len(A) + (x in A)\n",
    "def f(x):\n    for y, z in zip(x, range(3)):\n        x = y + z\n    return list(enumerate(x, start=1))\n",
    "def f(x):\n    for y in list(x):\n        x.pop(y)\n    return sorted(x, key=len, reverse=True)\n",
    "def f(x, y):\n    return len(set(x) - set(y)) + (x in {1, 2})\n",
    "def f(x):\n    return isinstance(x, (int, tuple)) or isinstance(x, list)\n",
    "def f(x):\n    return ' '.join(reversed(x))\n",
    "A = {1: (2, (3,)), 4: ()}\n",
    "from furrow.deeds import Deed\n\n\ndef f(x):\n    return isinstance(x, (int, Deed)) or Deed(x)\n",
)


class TheLook(unittest.TestCase):
    def test_wrong_forms_are_seen(self):
        for source, rule in WRONG:
            with self.subTest(source=source):
                self.assertIn(rule, [fault[0] for fault in faults_of(source)])

    def test_right_forms_are_let_be(self):
        for source in RIGHT:
            with self.subTest(source=source):
                self.assertEqual(faults_of(source), [])


if __name__ == "__main__":
    unittest.main()
