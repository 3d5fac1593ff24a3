"""The form of the package's files, as far as it can be told file by file; rules by their numbers."""
import ast
import builtins
import pathlib
import re
import unittest

PACKAGE = pathlib.Path(__file__).resolve().parent.parent / "joinload"

NODES = """
Module FunctionDef ClassDef Return Assign AugAssign For While If Raise Try ExceptHandler ImportFrom alias Expr Pass
Break Continue BoolOp BinOp UnaryOp Lambda IfExp Dict Set ListComp comprehension Compare Call JoinedStr FormattedValue
Constant Attribute Subscript Name List Tuple Slice Load Store arguments arg keyword And Or Add Sub Mult Mod Pow LShift
RShift BitOr BitXor BitAnd FloorDiv Invert Not UAdd USub Eq NotEq Lt LtE Gt GtE Is IsNot In NotIn
""".split()
OWN_NAMES = """
len range enumerate zip min max sum abs sorted reversed int str bool list tuple dict set frozenset isinstance ord repr
any all divmod Exception ValueError TypeError KeyError IndexError LookupError ZeroDivisionError ArithmeticError
OverflowError RuntimeError NotImplementedError AttributeError StopIteration
""".split()
DOUBLED = "__init__ __eq__ __repr__ __str__ __len__".split()
WORDS_LEFT_OUT = """
type typing typing_extensions enum Enum IntEnum StrEnum Flag IntFlag Generic Protocol ABC ABCMeta namedtuple NamedTuple
TypedDict TYPE_CHECKING abstractmethod
""".split()
PARTS_LEFT_OUT = "dataclass overload contextmanager".split()
NAMES_LEFT_OUT = """
register mro elements open input version_info with_traceback add_note attrgetter breakpoint builtins compile copyright
credits delattr dir eval exec exit gc getattr globals hasattr help id importlib license locals methodcaller os quit
setattr super type vars sys
""".split()


def faults_of_text(text):
    rows = text.split("\n")
    if len(rows) > 401 or any(len(row) > 120 for row in rows):
        yield "L10"
    if not re.fullmatch(r"[ -~\n]*", text):
        yield "L14"
    words = re.findall(r"\w+", text)
    if any(word in WORDS_LEFT_OUT for word in words) or any(part in text for part in PARTS_LEFT_OUT):
        yield "L17"


def faults_of_top(tree):
    for place, row in enumerate(tree.body):
        plain = isinstance(row, (ast.ImportFrom, ast.FunctionDef, ast.ClassDef, ast.Assign))
        docstring = place == 0 and isinstance(row, ast.Expr) and isinstance(row.value, ast.Constant)
        if not plain and not docstring:
            yield "L3"


def faults_of_name(name):
    if not re.fullmatch(r"[A-Za-z][A-Za-z0-9_]*", name) and name not in DOUBLED:
        yield "L12"
    if name in NAMES_LEFT_OUT:
        yield "L17"


def names_of_node(node):
    if isinstance(node, ast.Name):
        return [node.id]
    if isinstance(node, ast.Attribute):
        return [node.attr]
    if isinstance(node, ast.arg):
        return [node.arg]
    if isinstance(node, (ast.FunctionDef, ast.ClassDef)):
        return [node.name]
    return []


def faults_of_def(node):
    if node.end_lineno - node.lineno >= 40:
        yield "L10"
    given = node.args
    if node.decorator_list or given.vararg or given.kwarg or given.kwonlyargs:
        yield "L4"
    if any(hasattr(builtins, each.arg) for each in given.args):
        yield "L15"


def faults_of_node(node):
    if type(node).__name__ not in NODES:
        yield "L6, L7"
    if isinstance(node, ast.ImportFrom) and (node.level or not node.module.startswith("joinload.")):
        yield "L2"
    if isinstance(node, ast.FunctionDef):
        yield from faults_of_def(node)
    if isinstance(node, ast.ClassDef) and (node.decorator_list or node.keywords or len(node.bases) > 1):
        yield "L5"
    if isinstance(node, (ast.For, ast.While)) and node.orelse or isinstance(node, ast.Try) and node.finalbody:
        yield "L6"
    if isinstance(node, ast.Assign) and len(node.targets) > 1:
        yield "L6"
    if isinstance(node, ast.Name) and hasattr(builtins, node.id):
        if node.id not in OWN_NAMES or not isinstance(node.ctx, ast.Load):
            yield "L8"
    if isinstance(node, ast.Constant) and isinstance(node.value, (float, complex, bytes)):
        yield "L7"
    if isinstance(node, ast.Constant) and isinstance(node.value, str) and "%" in node.value:
        yield "L27"
    if isinstance(node, ast.BinOp) and isinstance(node.op, ast.Pow) and not isinstance(node.right, ast.Constant):
        yield "L27"
    for name in names_of_node(node):
        yield from faults_of_name(name)


def faults_of(text):
    tree = ast.parse(text)
    faults = list(faults_of_text(text)) + list(faults_of_top(tree))
    for node in ast.walk(tree):
        faults.extend((fault, getattr(node, "lineno", 0)) for fault in faults_of_node(node))
    return faults


class FormTest(unittest.TestCase):
    def test_only_plain_files_lie_in_the_package(self):
        for path in PACKAGE.iterdir():
            if path.name != "__pycache__":
                self.assertTrue(path.is_file() and re.fullmatch(r"[a-z_][a-z0-9_]*\.py", path.name), path.name)
        self.assertTrue((PACKAGE / "__init__.py").is_file())

    def test_each_file_keeps_to_the_language(self):
        for path in sorted(PACKAGE.glob("*.py")):
            with self.subTest(file=path.name):
                self.assertEqual(faults_of(path.read_text(encoding="utf-8")), [])

    def test_what_is_outside_the_language_is_found(self):
        outside = [
            "import sys\n", "from .bits import field\n", "x = 1.5\n", "x = y = 1\n", "print(1)\n", "x = 'a%'\n",
            "def f(*a):\n    return a\n", "def f(n):\n    return 2 ** n\n", "def f():\n    assert True\n",
            "def f(hash):\n    return hash\n", "# the type of it\n", "# caf\u00e9\n", "# a\tb\n",
            "def f(x):\n    return (y for y in x)\n", "def f(x):\n    _y = x\n", "x = 1\n" * 401, "#" + "x" * 120,
            "def f():\n" + "    pass\n" * 40, "def f():\n    return getattr\n", "if True:\n    x = 1\n",
        ]
        for text in outside:
            with self.subTest(text=text[:40]):
                self.assertNotEqual(faults_of(text), [])


if __name__ == "__main__":
    unittest.main()
