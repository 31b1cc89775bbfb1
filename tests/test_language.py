"""The form that the package's own files keep to: what of L1 to L28 can be seen line by line."""

import ast
import builtins
import itertools
import pathlib
import re
import unittest

PACKAGE = pathlib.Path(__file__).resolve().parent.parent / "sortlore"

STATEMENTS = (ast.Assign, ast.AugAssign, ast.If, ast.While, ast.For, ast.Return, ast.Break, ast.Continue,
              ast.Pass, ast.Raise, ast.Try, ast.Expr, ast.FunctionDef, ast.ClassDef, ast.ImportFrom)
BARRED = (ast.NamedExpr, ast.SetComp, ast.DictComp, ast.GeneratorExp, ast.Starred, ast.Await, ast.Yield,
          ast.YieldFrom, ast.Div, ast.MatMult)
OWN_NAMES = set("""len range enumerate zip min max sum abs sorted reversed int str bool list tuple dict set
    frozenset isinstance ord repr any all divmod Exception ValueError TypeError KeyError IndexError LookupError
    ZeroDivisionError ArithmeticError OverflowError RuntimeError NotImplementedError AttributeError
    StopIteration""".split())
METHODS = set("""append clear copy count endswith extend find get index insert isalnum isalpha isdigit islower
    isspace isupper items join keys ljust lower lstrip partition pop remove replace reverse rfind rjust
    rpartition rsplit rstrip setdefault split splitlines startswith strip update upper values zfill
    bit_length""".split())
VALUES = set("count index title find get join lower upper split strip copy add".split())
DOUBLE = {"__init__", "__eq__", "__repr__", "__str__", "__len__"}
UNUSED = set("""register mro elements open input version_info with_traceback add_note attrgetter breakpoint
    compile copyright credits delattr dir eval exec exit gc getattr globals hasattr help id importlib license
    locals methodcaller os quit setattr super vars sys format format_map""".split())
WORDS = re.compile(r"\b(type|typing|typing_extensions|enum|Enum|IntEnum|StrEnum|Flag|IntFlag|Generic|Protocol"
                   r"|ABC|ABCMeta|namedtuple|NamedTuple|TypedDict|TYPE_CHECKING|abstractmethod)\b"
                   r"|dataclass|overload|contextmanager")
KEYWORDS = {"sorted": {"key", "reverse"}, "min": {"key", "default"}, "max": {"key", "default"},
            "sum": {"start"}, "enumerate": {"start"}, "zip": {"strict"}}


def faults_of_rows(source):
    """L10, L14, L17: what is seen in the rows as they stand."""
    rows = source.split("\n")
    found = ["L10 a file of over 400 rows"] if len(rows) > 401 else []
    for at, row in enumerate(rows, 1):
        if len(row) > 120:
            found.append(f"L10 a long row: {at}")
        if any(not " " <= sign <= "~" for sign in row):
            found.append(f"L14 a sign: {at}")
        if WORDS.search(row):
            found.append(f"L17 a word: {at}")
    return found


def faults_of_top(tree):
    """L2, L3, L15, L16: what stands at a file's top, each name bound once."""
    found = []
    bound = []
    for node in tree.body:
        if isinstance(node, ast.ImportFrom):
            own = node.level == 0 and (node.module or "").startswith("sortlore.")
            if not own or any(name.name == "*" or name.asname for name in node.names):
                found.append(f"L2 an import: {node.lineno}")
            bound += [name.name for name in node.names]
        elif isinstance(node, (ast.FunctionDef, ast.ClassDef)):
            bound.append(node.name)
        elif isinstance(node, ast.Assign):
            bound += [target.id for target in node.targets]
        elif not (isinstance(node, ast.Expr) and isinstance(node.value, ast.Constant)):
            found.append(f"L3 the top: {node.lineno}")
    return found + [f"L15 bound twice: {name}" for name in bound if bound.count(name) > 1]


def faults_of_def(node, imports):
    """L4, L5, L10, L15, L21 of one def."""
    found = []
    if node.end_lineno - node.lineno + 1 > 40:
        found.append(f"L10 a long def: {node.lineno}")
    if node.decorator_list or node.args.vararg or node.args.kwarg or node.args.kwonlyargs or node.args.posonlyargs:
        found.append(f"L4 a def's head: {node.lineno}")
    if node.returns or any(arg.annotation for arg in node.args.args):
        found.append(f"L21 an annotation: {node.lineno}")
    if node.name.startswith("__") and node.name not in DOUBLE:
        found.append(f"L5 a method: {node.lineno}")
    local = [arg.arg for arg in node.args.args]
    local += [name.id for name in ast.walk(node) if isinstance(name, ast.Name) and isinstance(name.ctx, ast.Store)]
    for name in local:
        if hasattr(builtins, name) or name in imports:
            found.append(f"L15 a local {name}: {node.lineno}")
    return found


def faults_of_class(node):
    """L5 of one class."""
    fine = len(node.bases) <= 1 and not node.keywords and not node.decorator_list
    for inner in node.body:
        text = isinstance(inner, ast.Expr) and isinstance(inner.value, ast.Constant)
        fine = fine and (text or isinstance(inner, (ast.FunctionDef, ast.Pass)))
    return [] if fine else [f"L5 a class: {node.lineno}"]


def faults_of_call(node):
    """L22, L25: how a thing is called."""
    called = node.func
    name = called.id if isinstance(called, ast.Name) else ""
    if name in OWN_NAMES:
        wrong = [word.arg for word in node.keywords if word.arg not in KEYWORDS.get(name, ())]
        return [f"L22 a keyword: {node.lineno}"] if wrong else []
    return []


def faults_of_step(node):
    """L6, L7, L8, L12, L17, L20, L27: what is seen in one step."""
    at = getattr(node, "lineno", 0)
    if isinstance(node, ast.stmt) and not isinstance(node, STATEMENTS):
        return [f"L6 a statement: {at}"]
    if isinstance(node, BARRED):
        return [f"L7 a value: {at}"]
    if isinstance(node, (ast.For, ast.While)) and node.orelse or isinstance(node, ast.Try) and node.finalbody:
        return [f"L6 an else or finally: {at}"]
    if isinstance(node, ast.Assign) and (len(node.targets) != 1 or isinstance(node.targets[0], (ast.Tuple, ast.List))):
        return [f"L6 targets: {at}"]
    if isinstance(node, ast.ListComp) and (len(node.generators) > 1 or len(node.generators[0].ifs) > 1):
        return [f"L7 a comprehension: {at}"]
    if isinstance(node, ast.Name) and (node.id.startswith("_") or node.id in UNUSED):
        return [f"L12 or L17 a name: {at}"]
    if isinstance(node, ast.Name) and hasattr(builtins, node.id) and node.id not in OWN_NAMES:
        return [f"L8 a name: {at}"]
    if isinstance(node, ast.Attribute) and (node.attr in UNUSED or node.attr[0] == "_" and node.attr not in DOUBLE):
        return [f"L17 a value: {at}"]
    if isinstance(node, ast.Constant) and isinstance(node.value, (float, bytes, complex)):
        return [f"L7 a kind of value: {at}"]
    if isinstance(node, ast.Constant) and isinstance(node.value, str) and "%" in node.value:
        return [f"L27 a text: {at}"]
    if isinstance(node, ast.Compare) and any(isinstance(sign, (ast.Is, ast.IsNot)) for sign in node.ops):
        plain = all(isinstance(side, ast.Constant) for side in node.comparators)
        return [] if plain else [f"L20 is: {at}"]
    return faults_of_call(node) if isinstance(node, ast.Call) else []


def faults_of_methods(tree, own):
    """L25: no methods but Python's own that are listed and the package's own."""
    called = [node for node in ast.walk(tree) if isinstance(node, ast.Call) and isinstance(node.func, ast.Attribute)]
    return [f"L25 a method: {node.lineno}" for node in called if node.func.attr not in METHODS | DOUBLE | own]


def faults_of_members(sources):
    """L18, L26: over all files, no name both a method and a value, and none that Python's own values have."""
    methods, values = set(), set()
    for node in itertools.chain.from_iterable(ast.walk(ast.parse(source)) for source in sources):
        if isinstance(node, ast.ClassDef):
            methods |= {inner.name for inner in node.body if isinstance(inner, ast.FunctionDef)}
        if isinstance(node, ast.Attribute) and isinstance(node.ctx, ast.Store):
            values.add(node.attr)
    found = [f"L18 a method and a value: {name}" for name in sorted(methods & values)]
    taken = set().union(*[set(dir(kind)) for kind in (str, int, list, tuple, dict, set, frozenset, bytes)])
    found += [f"L26 a method: {name}" for name in sorted((methods & taken) - METHODS - DOUBLE - {"add", "discard"})]
    return found + [f"L26 a value: {name}" for name in sorted((values & (taken | {"args"})) - VALUES)]


def faults(source, own=frozenset()):
    """All that is seen against the rules in a file; own are the names of the package's methods."""
    tree = ast.parse(source)
    imports = [name.name for node in tree.body if isinstance(node, ast.ImportFrom) for name in node.names]
    imports += [node.name for node in tree.body if isinstance(node, ast.ClassDef)]
    found = faults_of_rows(source) + faults_of_top(tree) + faults_of_methods(tree, own)
    for node in ast.walk(tree):
        found += faults_of_step(node)
        if isinstance(node, ast.FunctionDef):
            found += faults_of_def(node, imports)
        if isinstance(node, ast.ClassDef):
            found += faults_of_class(node)
    return found


def drawn_from(tree):
    """The modules that a file draws from."""
    return [node.module for node in tree.body if isinstance(node, ast.ImportFrom)]


class Language(unittest.TestCase):
    def setUp(self):
        self.sources = {path.stem: path.read_text("ascii") for path in sorted(PACKAGE.glob("*.py"))}

    def test_nothing_else_lies_in_the_package(self):
        for path in PACKAGE.iterdir():
            if path.name != "__pycache__":
                self.assertRegex(path.name, r"^[a-z][a-z0-9_]*\.py$|^__(init|main)__\.py$")
        self.assertIn("__init__", self.sources)

    def test_each_file_keeps_to_the_form(self):
        own = set()
        for source in self.sources.values():
            for node in ast.walk(ast.parse(source)):
                if isinstance(node, ast.ClassDef):
                    own |= {inner.name for inner in node.body if isinstance(inner, ast.FunctionDef)}
        for name, source in self.sources.items():
            self.assertEqual(faults(source, own), [], name)

    def test_methods_and_values_keep_to_their_names(self):
        self.assertEqual(faults_of_members(self.sources.values()), [])
        head = "class A:\n    def "
        for source in (head + "f(self):\n        self.f = 1\n", head + "sort(self):\n        pass\n",
                       head + "f(self):\n        self.items = 1\n", head + "f(self):\n        self.args = 1\n"):
            self.assertNotEqual(faults_of_members([source]), [], source)

    def test_names_are_drawn_from_the_file_that_defines_them_without_a_ring(self):
        draws = {"sortlore." + name: drawn_from(ast.parse(source)) for name, source in self.sources.items()}
        left = dict(draws)
        while left:
            free = [name for name in left if not any(other in left for other in left[name])]
            self.assertTrue(free, left)
            left = {name: left[name] for name in left if name not in free}
        for name, source in self.sources.items():
            for node in ast.parse(source).body:
                if isinstance(node, ast.ImportFrom):
                    made = ast.parse(self.sources[node.module.partition(".")[2]]).body
                    defined = {getattr(inner, "name", None) for inner in made}
                    defined |= {inner.targets[0].id for inner in made if isinstance(inner, ast.Assign)}
                    self.assertLessEqual({alias.name for alias in node.names}, defined, name)

    def test_faults_are_seen(self):
        for source in BAD:
            self.assertNotEqual(faults(source), [], source)
        self.assertEqual(faults("def f(xs, n=0):\n    return [x + n for x in xs if x is not None]\n"), [])


BAD = [
    "import os\n",
    "from sortlore.errors import *\n",
    "from .errors import NoSign\n",
    "print(1)\n",
    "x = 1\nx = 2\n",
    "def f(*xs):\n    return xs\n",
    "def f(x: int):\n    return x\n",
    "def f():\n" + "    pass\n" * 40,
    "def f(x):\n    a = b = x\n    return a\n",
    "def f(x):\n    return x / 2\n",
    "def f(x):\n    return {y for y in x}\n",
    "def f(x):\n    return all(y for y in x)\n",
    "def f(x):\n    return chr(x)\n",
    "def f(x):\n    return getattr(x, 'y')\n",
    "def f(x):\n    return x.sort()\n",
    "def f(id):\n    return id\n",
    "def f(x):\n    return x is f\n",
    "def f(x):\n    return x == '%'\n",
    "def f(x):\n    with x:\n        pass\n",
    "def f(x):\n    for y in x:\n        pass\n    else:\n        pass\n",
    "class A:\n    x = 1\n",
    "class A:\n    def __hash__(self):\n        return 1\n",
    "# a type\n",
    "x = '" + "a" * 120 + "'\n",
    "x = 1.5\n",
    "x = '\u00e4'\n",
    "def f(x):\n    return sorted(x, kay=1)\n",
]


if __name__ == "__main__":
    unittest.main()
