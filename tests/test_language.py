"""The rules of LANGUAGE.md that can be seen in a file's tree and lines; the rest is for the reader."""

import ast
import builtins
import pathlib
import re
import unittest

PACKAGE = pathlib.Path(__file__).resolve().parent.parent / "citeward"

OWN_NAMES = set("""len range enumerate zip min max sum abs sorted reversed int str bool list tuple dict set frozenset
isinstance ord repr any all divmod Exception ValueError TypeError KeyError IndexError LookupError ZeroDivisionError
ArithmeticError OverflowError RuntimeError NotImplementedError AttributeError StopIteration""".split())
OWN_METHODS = set("""append clear copy count endswith extend find get index insert isalnum isalpha isdigit islower
isspace isupper items join keys ljust lower lstrip partition pop remove replace reverse rfind rjust rpartition rsplit
rstrip setdefault split splitlines startswith strip update upper values zfill bit_length""".split())
DUNDERS = set("__init__ __eq__ __repr__ __str__ __len__ __all__ __version__ __name__".split())
BANNED_WORDS = set("""type typing typing_extensions enum Enum IntEnum StrEnum Flag IntFlag Generic Protocol ABC ABCMeta
namedtuple NamedTuple TypedDict TYPE_CHECKING abstractmethod""".split())
NODES = set("""Module FunctionDef ClassDef arguments arg Assign AugAssign If While For Return Break Continue Pass Raise
Try ExceptHandler Expr ImportFrom alias Name Load Store Constant List Tuple Dict Set BinOp UnaryOp BoolOp Compare IfExp
Call keyword Attribute Subscript Slice ListComp comprehension JoinedStr FormattedValue Lambda Add Sub Mult FloorDiv Mod
Pow BitAnd BitOr BitXor LShift RShift Invert USub UAdd Not And Or Eq NotEq Lt LtE Gt GtE Is IsNot In NotIn""".split())


def lines_found(text):
    lines = text.split("\n")
    found = ["L10 a file of more than 400 lines"] if len(lines) > 401 else []
    for line in lines:
        found += ["L10 a long line"] if len(line) > 120 else []
        found += ["L14 a sign"] if not re.fullmatch("[ -~]*", line) else []
    words = set(re.findall("[A-Za-z_]+", text))
    found += ["L17 " + word for word in sorted(words & BANNED_WORDS)]
    found += ["L17 " + word for word in ("dataclass", "overload", "contextmanager") if word in text]
    return found


def is_plain_value(node):
    if isinstance(node, (ast.List, ast.Tuple)):
        return all(is_plain_value(part) for part in node.elts)
    if isinstance(node, ast.Dict):
        return all(is_plain_value(part) for part in node.keys + node.values)
    if isinstance(node, ast.UnaryOp):
        return is_plain_value(node.operand)
    return isinstance(node, (ast.Constant, ast.Name))


def top_found(tree):
    found, bound = [], []
    for place, node in enumerate(tree.body):
        if isinstance(node, ast.Assign):
            bound += [ast.unparse(target) for target in node.targets]
            found += [] if is_plain_value(node.value) else ["L3 a value at the top"]
        elif isinstance(node, (ast.FunctionDef, ast.ClassDef)):
            bound.append(node.name)
        elif isinstance(node, ast.ImportFrom):
            bound += [name.asname or name.name for name in node.names]
        elif place != 0 or not isinstance(node, ast.Expr) or not isinstance(node.value, ast.Constant):
            found.append("L3 a statement at the top")
    return found + (["L15 a name bound twice"] if len(bound) != len(set(bound)) else [])


def def_found(node):
    names = node.args
    found = ["L4 stars"] if names.vararg or names.kwarg or names.kwonlyargs or names.posonlyargs else []
    found += ["L4 a decorator"] if node.decorator_list else []
    found += ["L10 a long function"] if node.end_lineno - node.lineno >= 40 else []
    return found


def class_found(node):
    found = ["L5 bases"] if len(node.bases) > 1 or node.keywords or node.decorator_list else []
    return found + ["L5 a body" for part in node.body if not isinstance(part, (ast.FunctionDef, ast.Pass))]


def import_found(node):
    found = [] if node.level == 0 and (node.module or "").startswith("citeward.") else ["L2 an import"]
    return found + ["L2 a star" for name in node.names if name.name == "*"]


def name_found(name, stored):
    found = ["L12 " + name] if name.startswith("_") and name not in DUNDERS else []
    if hasattr(builtins, name) and name not in DUNDERS and (stored or name not in OWN_NAMES):
        found.append("L8 " + name)
    return found


def call_found(node, methods):
    if not isinstance(node.func, ast.Attribute):
        return []
    name = node.func.attr
    return [] if name in OWN_METHODS or name in methods or name in DUNDERS else ["L25 " + name]


def constant_found(node):
    found = [] if node.value is None or isinstance(node.value, (bool, int, str)) else ["L7 a value"]
    return found + (["L27 a sign"] if isinstance(node.value, str) and "%" in node.value else [])


def compare_found(node):
    rights = [right for how, right in zip(node.ops, node.comparators) if isinstance(how, (ast.Is, ast.IsNot))]
    fine = [right for right in rights if isinstance(right, ast.Constant) and right.value in (None, True, False)]
    return ["L20 is"] if len(fine) != len(rights) else []


def try_found(node):
    found = ["L6 finally"] if node.finalbody else []
    named = [handler for handler in node.handlers if handler.type is not None]
    found += ["L6 a bare except"] if len(named) != len(node.handlers) else []
    taken = [ast.unparse(handler.type) for handler in named]
    return found + ["L19 " + name for name in taken if name in ("Exception", "TypeError")]


def node_found(node, methods):
    kind = node.__class__.__name__
    if kind not in NODES:
        return ["L6 or L7 " + kind]
    if kind == "FunctionDef":
        return def_found(node) + name_found(node.name, True)
    if kind == "ClassDef":
        return class_found(node) + name_found(node.name, True)
    if kind == "Name":
        return name_found(node.id, isinstance(node.ctx, ast.Store))
    if kind == "arg":
        return name_found(node.arg, True) + (["L21 an annotation"] if node.annotation else [])
    if kind == "Assign":
        return ["L6 two targets"] if len(node.targets) > 1 else []
    if kind in ("For", "While"):
        return ["L6 an else behind a loop"] if node.orelse else []
    if kind == "ListComp":
        return ["L7 a comprehension"] if len(node.generators) > 1 or len(node.generators[0].ifs) > 1 else []
    checks = {"ImportFrom": import_found, "Constant": constant_found, "Compare": compare_found, "Try": try_found}
    if kind == "Call":
        return call_found(node, methods)
    return checks[kind](node) if kind in checks else []


def found_in(text):
    tree = ast.parse(text)
    methods = {node.name for node in ast.walk(tree) if isinstance(node, ast.FunctionDef)}
    found = lines_found(text) + top_found(tree)
    for node in ast.walk(tree):
        found += node_found(node, methods)
    return found


class Language(unittest.TestCase):

    def test_files(self):
        names = [path.name for path in PACKAGE.iterdir() if path.name != "__pycache__"]
        self.assertIn("__init__.py", names)
        for name in names:
            self.assertRegex(name, r"\A(__init__|__main__|[a-z][a-z0-9_]*)\.py\Z")

    def test_the_package_keeps_to_the_rules(self):
        for path in sorted(PACKAGE.glob("*.py")):
            with self.subTest(path.name):
                self.assertEqual(found_in(path.read_text(encoding="utf-8")), [])

    def test_what_breaks_a_rule_is_found(self):
        broken = (
            ("L2", "from os import path\n"), ("L3", "x = len('a')\n"), ("L4", "def f(*xs):\n    return xs\n"),
            ("L5", "class A:\n    x = 1\n"), ("L6", "def f(x):\n    assert x\n"), ("L7", "x = 1.5\n"),
            ("L8", "def f(x):\n    return print(x)\n"), ("L10", "x = '" + "a" * 120 + "'\n"),
            ("L12", "def f(_x):\n    return 1\n"), ("L14", "x = '\u00e4'\n"), ("L15", "x = 1\nx = 2\n"),
            ("L17", "# type\n"), ("L19", "def f():\n    try:\n        f()\n    except Exception:\n        pass\n"),
            ("L20", "def f(x, y):\n    return x is y\n"), ("L21", "def f(x: int):\n    return x\n"),
            ("L25", "def f(x):\n    return x.title()\n"), ("L27", "x = '%'\n"),
        )
        for rule, text in broken:
            with self.subTest(rule):
                self.assertIn(rule, [row.split()[0] for row in found_in(text)])


if __name__ == "__main__":
    unittest.main()
