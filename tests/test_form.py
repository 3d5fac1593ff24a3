"""The form of the package's files, as far as it can be told file by file; rules by their numbers."""
import ast
import builtins
import pathlib
import re
import unittest

PACKAGE = pathlib.Path(__file__).resolve().parent.parent / "joinload"

NODES = """
Module FunctionDef ClassDef Return Assign AugAssign For While If Raise Try ExceptHandler ImportFrom alias Expr Pass
Break Continue BoolOp BinOp UnaryOp Lambda IfExp Dict Set ListComp comprehension Compare Call JoinedStr FormattedValue
Constant Attribute Subscript Name List Tuple Slice Load Store arguments arg keyword And Or Add Sub Mult Mod Pow LShift
RShift BitOr BitXor BitAnd FloorDiv Invert Not UAdd USub Eq NotEq Lt LtE Gt GtE Is IsNot In NotIn
""".split()
OWN_NAMES = """
len range enumerate zip min max sum abs sorted reversed int str bool list tuple dict set frozenset isinstance ord repr
any all divmod Exception ValueError TypeError KeyError IndexError LookupError ZeroDivisionError ArithmeticError
OverflowError RuntimeError NotImplementedError AttributeError StopIteration
""".split()
DOUBLED = "__init__ __eq__ __repr__ __str__ __len__".split()
WORDS_LEFT_OUT = """
type typing typing_extensions enum Enum IntEnum StrEnum Flag IntFlag Generic Protocol ABC ABCMeta namedtuple NamedTuple
TypedDict TYPE_CHECKING abstractmethod
""".split()
PARTS_LEFT_OUT = "dataclass overload contextmanager".split()
NAMES_LEFT_OUT = """
register mro elements open input version_info with_traceback add_note attrgetter breakpoint builtins compile copyright
credits delattr dir eval exec exit gc getattr globals hasattr help id importlib license locals methodcaller os quit
setattr super type vars sys
""".split()

METHODS = """
append clear copy count endswith extend find get index insert isalnum isalpha isdigit islower isspace isupper items join
keys ljust lower lstrip partition pop remove replace reverse rfind rjust rpartition rsplit rstrip setdefault split
splitlines startswith strip update upper values zfill bit_length
""".split()
WALKED = "zip enumerate reversed range".split()


def faults_of_text(text):
    rows = text.split("\n")
    if len(rows) > 401 or any(len(row) > 120 for row in rows):
        yield "L10"
    if not re.fullmatch(r"[ -~\n]*", text):
        yield "L14"
    words = re.findall(r"\w+", text)
    if any(word in WORDS_LEFT_OUT for word in words) or any(part in text for part in PARTS_LEFT_OUT):
        yield "L17"


def faults_of_top(tree):
    for place, row in enumerate(tree.body):
        plain = isinstance(row, (ast.ImportFrom, ast.FunctionDef, ast.ClassDef, ast.Assign))
        docstring = place == 0 and isinstance(row, ast.Expr) and isinstance(row.value, ast.Constant)
        if not plain and not docstring:
            yield "L3"


def faults_of_name(name):
    if not re.fullmatch(r"[A-Za-z][A-Za-z0-9_]*", name) and name not in DOUBLED:
        yield "L12"
    if name in NAMES_LEFT_OUT:
        yield "L17"


def names_of_node(node):
    if isinstance(node, ast.Name):
        return [node.id]
    if isinstance(node, ast.Attribute):
        return [node.attr]
    if isinstance(node, ast.arg):
        return [node.arg]
    if isinstance(node, (ast.FunctionDef, ast.ClassDef)):
        return [node.name]
    return []


def faults_of_def(node):
    if node.end_lineno - node.lineno >= 40:
        yield "L10"
    given = node.args
    if node.decorator_list or given.vararg or given.kwarg or given.kwonlyargs:
        yield "L4"
    if any(hasattr(builtins, each.arg) for each in given.args):
        yield "L15"


def faults_of_values(node):
    """What stands where a value does."""
    if isinstance(node, ast.FormattedValue):
        if not isinstance(node.value, ast.Name) or node.conversion not in (-1, ord("r")) or node.format_spec:
            yield "L7"
    if isinstance(node, ast.Compare) and isinstance(node.ops[0], (ast.Is, ast.IsNot)):
        if not any(isinstance(side, ast.Constant) for side in (node.left, node.comparators[0])):
            yield "L20"
    if isinstance(node, ast.Assign) and isinstance(node.value, ast.Call) and isinstance(node.value.func, ast.Name):
        if node.value.func.id in WALKED:
            yield "L23"
        if node.value.func.id in ("set", "frozenset"):
            yield "L24"
    if isinstance(node, (ast.For, ast.comprehension)) and isinstance(node.iter, (ast.Set, ast.Call)):
        if isinstance(node.iter, ast.Set) or getattr(node.iter.func, "id", "") in ("set", "frozenset"):
            yield "L24"


def faults_of_node(node):
    yield from faults_of_values(node)
    if type(node).__name__ not in NODES:
        yield "L6, L7"
    if isinstance(node, ast.ImportFrom) and (node.level or not node.module.startswith("joinload.")):
        yield "L2"
    if isinstance(node, ast.FunctionDef):
        yield from faults_of_def(node)
    if isinstance(node, ast.ClassDef) and (node.decorator_list or node.keywords or len(node.bases) > 1):
        yield "L5"
    if isinstance(node, (ast.For, ast.While)) and node.orelse or isinstance(node, ast.Try) and node.finalbody:
        yield "L6"
    if isinstance(node, ast.Assign) and len(node.targets) > 1:
        yield "L6"
    if isinstance(node, ast.Name) and hasattr(builtins, node.id):
        if node.id not in OWN_NAMES or not isinstance(node.ctx, ast.Load):
            yield "L8"
    if isinstance(node, ast.Constant) and isinstance(node.value, (float, complex, bytes)):
        yield "L7"
    if isinstance(node, ast.Constant) and isinstance(node.value, str) and "%" in node.value:
        yield "L27"
    if isinstance(node, ast.BinOp) and isinstance(node.op, ast.Pow) and not isinstance(node.right, ast.Constant):
        yield "L27"
    for name in names_of_node(node):
        yield from faults_of_name(name)


def faults_of(text):
    tree = ast.parse(text)
    faults = list(faults_of_text(text)) + list(faults_of_top(tree))
    for node in ast.walk(tree):
        faults.extend((fault, getattr(node, "lineno", 0)) for fault in faults_of_node(node))
    return faults


def bound_at_top(tree):
    """The names of a file's top: those that it draws from others, and those of its own."""
    drawn = [name.name for row in tree.body if isinstance(row, ast.ImportFrom) for name in row.names]
    own = [row.name for row in tree.body if isinstance(row, (ast.FunctionDef, ast.ClassDef))]
    own += [target.id for row in tree.body if isinstance(row, ast.Assign) for target in row.targets]
    return drawn, own


def faults_of_bound(tree):
    """Names that are bound twice at the top, or within a def like a class or an import of the file."""
    drawn, own = bound_at_top(tree)
    if len(set(drawn + own)) != len(drawn + own):
        yield "L15"
    taken = drawn + [row.name for row in tree.body if isinstance(row, ast.ClassDef)]
    for node in ast.walk(tree):
        stored = isinstance(node, ast.Name) and isinstance(node.ctx, ast.Store) and node.id in taken
        if stored or isinstance(node, ast.arg) and node.arg in taken:
            yield "L15", node.lineno


def methods_and_values(trees):
    """The names of the methods in all classes, and of the values that objects are given."""
    nodes = [node for tree in trees.values() for node in ast.walk(tree)]
    classes = [node for node in nodes if isinstance(node, ast.ClassDef)]
    methods = {row.name for node in classes for row in node.body if isinstance(row, ast.FunctionDef)}
    values = {node.attr for node in nodes if isinstance(node, ast.Attribute) and isinstance(node.ctx, ast.Store)}
    return methods, values


def faults_of_imports(trees):
    """Names drawn from a file that does not define them, and files that draw from one another."""
    draws = {}
    for name, tree in trees.items():
        rows = [row for row in tree.body if isinstance(row, ast.ImportFrom)]
        draws[name] = {row.module.partition(".")[2] for row in rows}
        for row in rows:
            own = bound_at_top(trees[row.module.partition(".")[2]])[1]
            if any(each.name not in own or each.asname for each in row.names):
                yield "L16", name, row.lineno
    while any(draws.values()):
        free = [name for name in draws if not draws[name]]
        if not free:
            yield "L16", sorted(draws)
            return
        draws = {name: others - set(free) for name, others in draws.items() if name not in free}


def faults_of_package(texts):
    """What can be told of all files together alone; texts by the names of the files."""
    trees = {name: ast.parse(text) for name, text in texts.items()}
    methods, values = methods_and_values(trees)
    faults = [("L18", name) for name in sorted(methods & values)] + list(faults_of_imports(trees))
    for name, tree in trees.items():
        faults.extend(faults_of_bound(tree))
        for node in ast.walk(tree):
            if isinstance(node, ast.Call) and isinstance(node.func, ast.Attribute):
                if node.func.attr not in METHODS and node.func.attr not in methods | set(DOUBLED):
                    faults.append(("L25", name, node.lineno))
    return faults


class FormTest(unittest.TestCase):
    def test_only_plain_files_lie_in_the_package(self):
        for path in PACKAGE.iterdir():
            if path.name != "__pycache__":
                self.assertTrue(path.is_file() and re.fullmatch(r"[a-z_][a-z0-9_]*\.py", path.name), path.name)
        self.assertTrue((PACKAGE / "__init__.py").is_file())

    def test_each_file_keeps_to_the_language(self):
        for path in sorted(PACKAGE.glob("*.py")):
            with self.subTest(file=path.name):
                self.assertEqual(faults_of(path.read_text(encoding="utf-8")), [])

    def test_what_is_outside_the_language_is_found(self):
        outside = [
            "import sys\n", "from .bits import field\n", "x = 1.5\n", "x = y = 1\n", "print(1)\n", "x = 'a%'\n",
            "def f(*a):\n    return a\n", "def f(n):\n    return 2 ** n\n", "def f():\n    assert True\n",
            "def f(hash):\n    return hash\n", "# the type of it\n", "# caf\u00e9\n", "# a\tb\n",
            "def f(x):\n    return (y for y in x)\n", "def f(x):\n    _y = x\n", "x = 1\n" * 401, "#" + "x" * 120,
            "def f():\n" + "    pass\n" * 40, "def f():\n    return getattr\n", "if True:\n    x = 1\n",
            "def f(x):\n    return f'{x + 1}'\n", "def f(x):\n    return f'{x:4}'\n", "def f(x):\n    return x is x\n",
            "def f(x):\n    y = zip(x, x)\n", "def f(x):\n    y = set(x)\n",
            "def f(x):\n    for y in set(x):\n        pass\n",
        ]
        for text in outside:
            with self.subTest(text=text[:40]):
                self.assertNotEqual(faults_of(text), [])

    def test_all_files_together_keep_to_the_language(self):
        texts = {path.stem: path.read_text(encoding="utf-8") for path in PACKAGE.glob("*.py")}
        self.assertEqual(faults_of_package(texts), [])

    def test_what_is_outside_the_language_in_several_files_is_found(self):
        outside = [
            {"a": "from joinload.b import f\n", "b": "from joinload.a import f\n"},
            {"a": "from joinload.b import f\n", "b": "from joinload.c import f\n", "c": "def f():\n    pass\n"},
            {"a": "class A:\n    def go(self):\n        pass\n", "b": "def f(x):\n    x.go = 1\n"},
            {"a": "def f(x):\n    x.sort()\n"},
            {"a": "x = 1\nx = 2\n"},
            {"a": "class A:\n    pass\ndef f(A):\n    return A\n"},
            {"a": "from joinload.b import g\ndef f():\n    g = 1\n", "b": "def g():\n    pass\n"},
        ]
        for texts in outside:
            with self.subTest(texts=texts):
                self.assertNotEqual(faults_of_package(texts), [])


if __name__ == "__main__":
    unittest.main()
