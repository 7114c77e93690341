"""Holds the package's files against the rules L1 to L28 of the language, as far as a look at the code can tell."""

import ast
import builtins
import pathlib
import re
import unittest

PACKAGE = pathlib.Path(__file__).resolve().parent.parent / "labelplace"

OWN_NAMES = set(
    "len range enumerate zip min max sum abs sorted reversed int str bool list tuple dict set frozenset isinstance "
    "ord repr any all divmod Exception ValueError TypeError KeyError IndexError LookupError ZeroDivisionError "
    "ArithmeticError OverflowError RuntimeError NotImplementedError AttributeError StopIteration".split()
)
METHODS = set(
    "append clear copy count endswith extend find get index insert isalnum isalpha isdigit islower isspace isupper "
    "items join keys ljust lower lstrip partition pop remove replace reverse rfind rjust rpartition rsplit rstrip "
    "setdefault split splitlines startswith strip update upper values zfill bit_length".split()
)
SPECIAL = {"__init__", "__eq__", "__repr__", "__str__", "__len__"}
BANNED_WORDS = (
    "type typing typing_extensions enum Enum IntEnum StrEnum Flag IntFlag Generic Protocol ABC ABCMeta namedtuple "
    "NamedTuple TypedDict TYPE_CHECKING abstractmethod".split()
)
BANNED_WITHIN = ["dataclass", "overload", "contextmanager"]
BANNED_NAMES = set(
    "register mro elements open input version_info with_traceback add_note attrgetter breakpoint builtins compile "
    "copyright credits delattr dir eval exec exit gc getattr globals hasattr help id importlib license locals "
    "methodcaller os quit setattr super type vars sys format format_map".split()
)
STATEMENTS = (
    ast.Assign, ast.AugAssign, ast.If, ast.While, ast.For, ast.Return, ast.Break, ast.Continue, ast.Pass, ast.Raise,
    ast.Try, ast.Expr, ast.FunctionDef, ast.ClassDef, ast.ImportFrom,
)
EXPRESSIONS = (
    ast.Constant, ast.List, ast.Tuple, ast.Dict, ast.Set, ast.BinOp, ast.UnaryOp, ast.Compare, ast.BoolOp, ast.IfExp,
    ast.Call, ast.Attribute, ast.Subscript, ast.Slice, ast.ListComp, ast.JoinedStr, ast.FormattedValue, ast.Name,
    ast.Lambda,
)
BUILTINS = {name for name in vars(builtins) if not name.startswith("__")}
FREE_VALUES = set("count index title find get join lower upper split strip copy add".split())
HELD_METHODS = {name for kind in (str, int, list, dict, set, tuple) for name in vars(kind)}


def text_faults(text):
    lines = text.split("\n")
    if len(lines) - 1 > 400:
        yield "L10", 0
    for number, line in enumerate(lines, start=1):
        if len(line) > 120:
            yield "L10", number
        if re.search(r"[^ -~]", line):
            yield "L14", number
        if set(re.findall(r"\w+", line)) & set(BANNED_WORDS) or any(word in line for word in BANNED_WITHIN):
            yield "L17", number


def top_faults(tree):
    seen = set()
    for node in tree.body:
        if isinstance(node, (ast.FunctionDef, ast.ClassDef)):
            names = [node.name]
        elif isinstance(node, ast.ImportFrom):
            names = [alias.asname or alias.name for alias in node.names]
        elif isinstance(node, ast.Assign) and isinstance(node.targets[0], ast.Name):
            names = [node.targets[0].id]
            if any(isinstance(part, (ast.Call, ast.ListComp, ast.Set)) for part in ast.walk(node.value)):
                yield "L3", node.lineno
        elif node is tree.body[0] and ast.get_docstring(tree) is not None:
            names = []
        else:
            names = []
            yield "L3", node.lineno
        if seen & set(names):
            yield "L15", node.lineno
        seen |= set(names)


def import_faults(node):
    if node.level != 0 or not (node.module or "").startswith("labelplace.") or node.module.endswith("__main__"):
        yield "L2", node.lineno
    if any(alias.name == "*" or alias.asname for alias in node.names):
        yield "L2", node.lineno


def function_faults(node):
    given = node.args
    if given.vararg or given.kwarg or given.kwonlyargs or given.posonlyargs:
        yield "L4", node.lineno
    if isinstance(node, ast.FunctionDef):
        if node.decorator_list:
            yield "L4", node.lineno
        if node.end_lineno - node.lineno + 1 > 40:
            yield "L10", node.lineno
        if node.returns or any(arg.annotation for arg in given.args):
            yield "L21", node.lineno


def class_faults(node):
    if node.decorator_list or node.keywords or len(node.bases) > 1:
        yield "L5", node.lineno
    for part in node.body:
        if not isinstance(part, (ast.FunctionDef, ast.Pass)):
            yield "L5", part.lineno


def statement_faults(node):
    if not isinstance(node, STATEMENTS):
        yield "L6", node.lineno
    if isinstance(node, ast.Assign) and (len(node.targets) != 1 or isinstance(node.targets[0], (ast.Tuple, ast.List))):
        yield "L6", node.lineno
    if isinstance(node, (ast.For, ast.While)) and node.orelse:
        yield "L6", node.lineno
    if isinstance(node, ast.Try):
        named = [handler.type for handler in node.handlers]
        if node.finalbody or None in named:
            yield "L6", node.lineno
        if any(isinstance(kind, ast.Name) and kind.id in ("Exception", "TypeError") for kind in named):
            yield "L19", node.lineno


def expression_faults(node):
    if not isinstance(node, EXPRESSIONS):
        yield "L7", node.lineno
    if isinstance(node, ast.Constant) and isinstance(node.value, (float, bytes, complex)):
        yield "L7", node.lineno
    if isinstance(node, ast.Constant) and isinstance(node.value, str) and "%" in node.value:
        yield "L27", node.lineno
    if isinstance(node, ast.BinOp) and isinstance(node.op, (ast.Div, ast.MatMult)):
        yield "L7", node.lineno
    if isinstance(node, ast.BinOp) and isinstance(node.op, ast.Pow) and not isinstance(node.right, ast.Constant):
        yield "L27", node.lineno
    if isinstance(node, ast.ListComp) and (len(node.generators) != 1 or len(node.generators[0].ifs) > 1):
        yield "L7", node.lineno
    if isinstance(node, ast.FormattedValue) and (not isinstance(node.value, ast.Name) or node.format_spec):
        yield "L7", node.lineno
    if isinstance(node, ast.Compare) and any(isinstance(op, (ast.Is, ast.IsNot)) for op in node.ops):
        sides = [node.left] + node.comparators
        if not any(isinstance(side, ast.Constant) and side.value in (None, True, False) for side in sides):
            yield "L20", node.lineno


def is_call_of(node, names):
    return isinstance(node, ast.Call) and isinstance(node.func, ast.Name) and node.func.id in names


def is_set(node):
    if isinstance(node, ast.BinOp) and isinstance(node.op, (ast.Sub, ast.BitAnd, ast.BitOr, ast.BitXor)):
        return is_set(node.left) and is_set(node.right)
    return is_call_of(node, ("set", "frozenset"))


def set_faults(tree):
    fitting = set()
    for node in ast.walk(tree):
        if isinstance(node, ast.Compare) and isinstance(node.ops[0], (ast.In, ast.NotIn)):
            fitting.add(node.comparators[0])
        if isinstance(node, ast.Compare) and isinstance(node.ops[0], (ast.Eq, ast.NotEq)):
            if is_set(node.left) and is_set(node.comparators[0]):
                fitting |= {node.left, node.comparators[0]}
        if is_call_of(node, ("sorted", "len")) and not node.keywords:
            fitting.add(node.args[0])
        if node in fitting and isinstance(node, ast.BinOp) and is_set(node):
            fitting |= {node.left, node.right}
    for node in ast.walk(tree):
        if is_set(node) and node not in fitting:
            yield "L24", node.lineno


def is_walk(node):
    method = node.func.attr if isinstance(node, ast.Call) and isinstance(node.func, ast.Attribute) else None
    return is_call_of(node, ("zip", "enumerate", "reversed", "range")) or method in ("items", "keys", "values")


def walk_faults(tree):
    fitting = set()
    for node in ast.walk(tree):
        if isinstance(node, (ast.For, ast.comprehension)):
            fitting.add(node.iter)
        if is_call_of(node, ("list", "tuple", "dict", "sorted", "sum", "any", "all", "enumerate", "zip")):
            fitting |= set(node.args[:1])
        if is_call_of(node, ("min", "max")) and len(node.args) == 1:
            fitting.add(node.args[0])
        if isinstance(node, ast.Call) and isinstance(node.func, ast.Attribute) and node.func.attr == "join":
            fitting |= set(node.args)
    for node in ast.walk(tree):
        if is_walk(node) and node not in fitting:
            yield "L23", node.lineno


def bound_names(node):
    if isinstance(node, ast.Name) and isinstance(node.ctx, ast.Store):
        return [node.id]
    if isinstance(node, ast.arg):
        return [node.arg]
    if isinstance(node, ast.ExceptHandler) and node.name:
        return [node.name]
    if isinstance(node, (ast.FunctionDef, ast.ClassDef)):
        return [node.name]
    return []


def imported_names(tree):
    names = set()
    for node in tree.body:
        if isinstance(node, ast.ImportFrom):
            names |= {alias.name for alias in node.names}
    return names


def name_faults(node, tree):
    classes = {part.name for part in tree.body if isinstance(part, ast.ClassDef)}
    for name in bound_names(node):
        if name.startswith("_") and name not in SPECIAL:
            yield "L12", node.lineno
        method = isinstance(node, ast.FunctionDef) and node not in tree.body
        if not method and name in BUILTINS:
            yield "L15", node.lineno
        if not isinstance(node, ast.ClassDef) and name in classes | imported_names(tree):
            yield "L15", node.lineno
    if isinstance(node, ast.Name) and node.id in BANNED_NAMES:
        yield "L17", node.lineno
    if isinstance(node, ast.Name) and node.id in BUILTINS - OWN_NAMES:
        yield "L8", node.lineno


def attribute_faults(node, own):
    if node.attr in BANNED_NAMES or (node.attr.startswith("_") and node.attr not in SPECIAL):
        yield "L17", node.lineno
    if node.attr in HELD_METHODS - METHODS - SPECIAL and node.attr not in own:
        yield "L25", node.lineno
    if isinstance(node.ctx, ast.Store) and node.attr in HELD_METHODS - FREE_VALUES:
        yield "L26", node.lineno


def node_faults(node, tree, own):
    if isinstance(node, ast.ImportFrom):
        yield from import_faults(node)
    if isinstance(node, (ast.FunctionDef, ast.Lambda)):
        yield from function_faults(node)
    if isinstance(node, ast.ClassDef):
        yield from class_faults(node)
    if isinstance(node, ast.stmt):
        yield from statement_faults(node)
    if isinstance(node, ast.expr):
        yield from expression_faults(node)
    if isinstance(node, ast.Expr) and not isinstance(node.value, ast.Call) and node is not tree.body[0]:
        yield "L6", node.lineno
    if isinstance(node, ast.Attribute):
        yield from attribute_faults(node, own)
    yield from name_faults(node, tree)


def own_methods(tree):
    return {node.name for node in ast.walk(tree) if isinstance(node, ast.FunctionDef)}


def faults_of(text):
    tree = ast.parse(text)
    faults = list(text_faults(text)) + list(top_faults(tree)) + list(set_faults(tree)) + list(walk_faults(tree))
    for node in ast.walk(tree):
        faults.extend(node_faults(node, tree, own_methods(tree)))
    return faults


def drawn_from(path):
    tree = ast.parse(path.read_text(encoding="utf-8"))
    return {node.module.split(".")[1] for node in ast.walk(tree) if isinstance(node, ast.ImportFrom)}


class Language(unittest.TestCase):
    def files(self):
        return sorted(PACKAGE.glob("*.py"))

    def test_the_folder_holds_plain_files_alone(self):
        for path in PACKAGE.iterdir():
            if path.name != "__pycache__":
                self.assertRegex(path.name, r"\A[a-z0-9_]+\.py\Z")
        self.assertIn(PACKAGE / "__init__.py", self.files())

    def test_no_fault_in_any_file(self):
        for path in self.files():
            self.assertEqual(faults_of(path.read_text(encoding="utf-8")), [], path.name)

    def test_imports_name_the_file_that_defines_and_never_come_back(self):
        drawn = {path.stem: drawn_from(path) for path in self.files()}
        for stem in drawn:
            reached = set(drawn[stem])
            for _ in drawn:
                reached = reached.union(*[drawn[other] for other in reached])
            self.assertNotIn(stem, reached)
        for path in self.files():
            for node in ast.parse(path.read_text(encoding="utf-8")).body:
                if isinstance(node, ast.ImportFrom):
                    source = ast.parse((PACKAGE / f"{node.module.split('.')[1]}.py").read_text(encoding="utf-8"))
                    tops = [name for part in source.body for sub in ast.walk(part) for name in bound_names(sub)]
                    self.assertLessEqual({alias.name for alias in node.names}, set(tops), path.name)

    def test_no_name_is_a_method_here_and_a_value_there(self):
        methods, values = set(), set()
        for path in self.files():
            for node in ast.walk(ast.parse(path.read_text(encoding="utf-8"))):
                if isinstance(node, ast.ClassDef):
                    methods |= {part.name for part in node.body if isinstance(part, ast.FunctionDef)}
                if isinstance(node, ast.Attribute) and isinstance(node.ctx, ast.Store):
                    values.add(node.attr)
        self.assertEqual(methods & values, set())

    def test_what_is_outside_is_seen(self):
        outside = {
            "L2": "from os import path", "L3": "xs = list()", "L4": "def f(*xs):\n    return xs", "L5": "class A:\n    x = 1",
            "L6": "def f(x):\n    assert x", "L7": "def f(x):\n    return x / 2", "L8": "def f(x):\n    return iter(x)",
            "L10": "def f():\n" + "    pass\n" * 40, "L12": "def f(_x):\n    return 1", "L15": "x = 1\nx = 2",
            "L14": "# \u00fc", "L17": "# a type",
            "L19": "def f(x):\n    try:\n        g(x)\n    except Exception:\n        pass",
            "L23": "def f(x):\n    y = x.items()\n    return list(y)", "L24": "def f(x):\n    return list(set(x))",
            "L20": "def f(x, y):\n    return x is y", "L21": "def f(x) -> int:\n    return x",
            "L25": "def f(x):\n    return x.casefold()", "L26": "def f(x):\n    x.pop = 1",
            "L27": "def f(x):\n    return 2 ** x",
        }
        outside["L6 module"] = "import os"
        outside["L6 two"] = "def f(x):\n    a, b = x\n    return a + b"
        outside["L6 words"] = "def f(x):\n    'words'\n    return x"
        for rule, text in outside.items():
            self.assertIn(rule.split(" ")[0], [fault[0] for fault in faults_of(text)], text)


if __name__ == "__main__":
    unittest.main()
