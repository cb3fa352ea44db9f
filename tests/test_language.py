"""The package's files keep to the small part of Python they are written in: what can be seen file by file.

This sees the rules on files, signs, sizes, imports, names, statements, expressions and methods; rules on what is
kept or changed are left to the reader.
"""

import ast
import builtins
import re
import unittest
from pathlib import Path

PACKAGE = Path(__file__).resolve().parent.parent / "trueword"

STATEMENTS = (ast.Assign, ast.AugAssign, ast.If, ast.While, ast.For, ast.Return, ast.Break, ast.Continue, ast.Pass,
              ast.Raise, ast.Try, ast.Expr, ast.FunctionDef, ast.ClassDef, ast.ImportFrom)
EXPRESSIONS = (ast.Constant, ast.Name, ast.List, ast.Tuple, ast.Dict, ast.Set, ast.BinOp, ast.UnaryOp, ast.BoolOp,
               ast.Compare, ast.IfExp, ast.Call, ast.Attribute, ast.Subscript, ast.Slice, ast.ListComp, ast.JoinedStr,
               ast.FormattedValue, ast.Lambda)
BUILTINS = set("""len range enumerate zip min max sum abs sorted reversed int str bool list tuple dict set frozenset
    isinstance ord repr any all divmod Exception ValueError KeyError IndexError LookupError ZeroDivisionError
    ArithmeticError OverflowError RuntimeError NotImplementedError StopIteration""".split())
METHODS = set("""append clear copy count endswith extend find get index insert isalnum isalpha isdigit islower isspace
    isupper items join keys ljust lower lstrip partition pop remove replace reverse rfind rjust rpartition rsplit rstrip
    setdefault split splitlines startswith strip update upper values zfill bit_length""".split())
UNUSED_WORDS = """type typing typing_extensions enum Enum IntEnum StrEnum Flag IntFlag Generic Protocol ABC ABCMeta
    namedtuple NamedTuple TypedDict TYPE_CHECKING abstractmethod""".split()
UNUSED_NAMES = set("""register mro elements open input version_info with_traceback add_note format format_map chr
    attrgetter breakpoint builtins compile copyright credits delattr dir eval exec exit gc getattr globals hasattr help
    id importlib license locals methodcaller os quit setattr super vars sys""".split())
DUNDERS = {"__init__", "__eq__", "__repr__", "__str__", "__len__", "__all__", "__version__"}


def own_names():
    kinds = (str, int, list, dict, set, bytes, tuple)
    return {name for kind in kinds for name in dir(kind)} - METHODS


def faults_of_text(text):
    faults = []
    for number, line in enumerate(text.split("\n"), start=1):
        if len(line) > 120:
            faults.append(f"{number}: L10 a line of more than 120 characters")
        if any(not " " <= sign <= "~" for sign in line):
            faults.append(f"{number}: L14 a sign outside blank to ~")
        if any(re.search(rf"\b{word}\b", line) for word in UNUSED_WORDS):
            faults.append(f"{number}: L17 a word that stands nowhere")
        if re.search("dataclass|overload|contextmanager", line):
            faults.append(f"{number}: L17 a word that stands nowhere")
    if text.count("\n") > 400:
        faults.append("L10 a file of more than 400 lines")
    return faults


def fault_of_statement(node, top):
    if not isinstance(node, STATEMENTS):
        return "L6 a statement that is not used"
    if isinstance(node, ast.ImportFrom) and (node.level or not str(node.module).startswith("trueword.")):
        return "L2 an import from elsewhere"
    if isinstance(node, ast.ImportFrom) and (node not in top or any(name.name == "*" for name in node.names)):
        return "L2 an import that is not plain and at the top"
    if isinstance(node, ast.Expr) and not isinstance(node.value, ast.Call) and node is not top[0]:
        return "L6 an expression by itself"
    if isinstance(node, ast.Assign) and len(node.targets) != 1:
        return "L6 several targets"
    if isinstance(node, (ast.For, ast.While)) and node.orelse:
        return "L6 else behind a loop"
    if isinstance(node, ast.Try) and (node.finalbody or any(handler.type is None for handler in node.handlers)):
        return "L6 finally, or an except of no named class"
    if isinstance(node, ast.FunctionDef):
        return fault_of_def(node)
    if isinstance(node, ast.ClassDef):
        return fault_of_class(node, top)
    return None


def fault_of_def(node):
    if node.decorator_list or node.args.vararg or node.args.kwarg or node.args.kwonlyargs or node.args.posonlyargs:
        return "L4 a decorator or parameters that are not plain"
    if node.end_lineno - node.lineno + 1 > 40:
        return "L10 a function of more than 40 lines"
    return None


def fault_of_class(node, top):
    if node not in top or node.decorator_list or node.keywords or len(node.bases) > 1:
        return "L5 a class that is not plain"
    if not all(isinstance(part, (ast.FunctionDef, ast.Pass)) for part in node.body):
        return "L5 a value in a class body"
    return None


def fault_of_expression(node):
    if not isinstance(node, EXPRESSIONS):
        return "L7 an expression that is not used"
    if isinstance(node, ast.Constant) and not isinstance(node.value, (int, str, type(None))):
        return "L7 a value that is not used"
    if isinstance(node, ast.Constant) and isinstance(node.value, str) and "%" in node.value:
        return "L27 % within a text"
    if isinstance(node, ast.ListComp) and (len(node.generators) > 1 or len(node.generators[0].ifs) > 1):
        return "L7 more than one for or if"
    if isinstance(node, ast.BinOp) and isinstance(node.op, (ast.Div, ast.MatMult)):
        return "L7 an operator that is not used"
    if isinstance(node, ast.BinOp) and isinstance(node.op, ast.Pow) and not isinstance(node.right, ast.Constant):
        return "L27 an exponent that is not written"
    if isinstance(node, ast.Compare) and any(isinstance(op, (ast.Is, ast.IsNot)) for op in node.ops):
        return fault_of_is(node)
    if isinstance(node, ast.Attribute) and node.attr in own_names() - DUNDERS:
        return "L25 a method that is not used"
    return None


def fault_of_is(node):
    sides = [node.left] + node.comparators
    if any(isinstance(side, ast.Constant) and (side.value is None or side.value in (True, False)) for side in sides):
        return None
    return "L20 is beside something else"


def names_bound(node):
    if isinstance(node, ast.Name) and isinstance(node.ctx, ast.Store):
        return [node.id]
    if isinstance(node, ast.arg):
        return [node.arg]
    if isinstance(node, (ast.FunctionDef, ast.ClassDef)):
        return [node.name]
    if isinstance(node, ast.ExceptHandler) and node.name:
        return [node.name]
    return []


def fault_of_names(node, methods):
    for name in names_bound(node):
        if (name.startswith("_") and name not in DUNDERS) or name in UNUSED_NAMES:
            return "L12, L17 a name that is not used"
        if name in vars(builtins) and node not in methods:
            return "L15 a name like one of Python's own"
    if isinstance(node, ast.Name) and isinstance(node.ctx, ast.Load):
        if node.id in vars(builtins) and node.id not in BUILTINS:
            return "L8 a name of Python's own that is not used"
    if isinstance(node, ast.Attribute) and node.attr in UNUSED_NAMES:
        return "L17 a name that is not used"
    return None


def faults_of_tree(tree):
    faults = []
    classes = [node for node in ast.walk(tree) if isinstance(node, ast.ClassDef)]
    methods = [part for node in classes for part in node.body]
    for node in ast.walk(tree):
        found = [fault_of_names(node, methods)]
        if isinstance(node, ast.stmt):
            found.append(fault_of_statement(node, tree.body))
        if isinstance(node, ast.expr):
            found.append(fault_of_expression(node))
        faults.extend(f"{node.lineno}: {fault}" for fault in found if fault)
    return faults


def faults_of(text):
    return faults_of_text(text) + faults_of_tree(ast.parse(text))


class TestLanguage(unittest.TestCase):
    def test_the_folder_holds_plain_files_alone(self):
        for path in PACKAGE.iterdir():
            if path.name != "__pycache__":
                self.assertRegex(path.name, r"^(__init__|__main__|[a-z][a-z0-9_]*)\.py$")
                self.assertFalse(path.stem in vars(builtins) or path.stem.startswith("test"), path.name)

    def test_each_file_keeps_to_the_rules(self):
        for path in sorted(PACKAGE.glob("*.py")):
            with self.subTest(file=path.name):
                self.assertEqual(faults_of(path.read_bytes().decode("utf-8")), [])

    def test_faults_are_seen(self):
        for text in ("import sys\n", "from os import path\n", "def f(*xs):\n    pass\n", "def f(x):\n    return x / 2\n",
                     "def f(x):\n    return [y for z in x for y in z]\n", "def f(x):\n    return sum(y for y in x)\n",
                     "def f(x):\n    assert x\n", "def f(x):\n    return x is 3\n", "def f(x):\n    x.sort()\n",
                     "def f(x):\n    return id(x)\n", "def f(n):\n    return 2 ** n\n", "def f(max):\n    pass\n",
                     "class A(ValueError):\n    x = 1\n", "x = 1.5\n", "# a type\n", "# caf\u00e9\n", "_x = 1\n",
                     "def f(x):\n    with x:\n        pass\n", "x = 'a%b'\n", "def f(x):\n    a = b = x\n"):
            self.assertNotEqual(faults_of(text), [], text)


if __name__ == "__main__":
    unittest.main()
