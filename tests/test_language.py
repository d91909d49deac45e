"""The package keeps to the rules of ../shared/LANGUAGE.md, as far as a look at the code can tell.

Each check yields (rule, line). The second half shows that the checks find what breaks a rule.
"""

import ast
import builtins
import pathlib
import re
import unittest

PACKAGE = "nearorders"
FOLDER = pathlib.Path(__file__).resolve().parent.parent / PACKAGE

BUILTINS = set(
    "len range enumerate zip min max sum abs sorted reversed int str bool bytes list tuple dict set frozenset "
    "isinstance ord repr any all divmod Exception ValueError TypeError KeyError IndexError LookupError "
    "ZeroDivisionError ArithmeticError OverflowError RuntimeError NotImplementedError AttributeError "
    "StopIteration".split()
)
METHODS = set(
    "append clear copy count endswith extend find get index insert isalnum isalpha isdigit islower isspace isupper "
    "items join keys ljust lower lstrip partition pop remove replace reverse rfind rjust rpartition rsplit rstrip "
    "setdefault split splitlines startswith strip update upper values zfill bit_length title capitalize swapcase "
    "casefold center expandtabs removeprefix removesuffix rindex isascii isdecimal isnumeric istitle isidentifier "
    "isprintable translate sort add discard encode decode hex fromhex to_bytes from_bytes maketrans".split()
)
NEVER = set("register mro elements open input version_info with_traceback add_note".split())
NO_NAMES = set(
    "attrgetter breakpoint builtins compile copyright credits delattr dir eval exec exit gc getattr globals hasattr "
    "help id importlib license locals methodcaller os quit setattr super type vars sys".split()
)
NO_WORDS = re.compile(
    r"\b(type|typing|typing_extensions|enum|Enum|IntEnum|StrEnum|Flag|IntFlag|Generic|Protocol|ABC|ABCMeta|"
    r"namedtuple|NamedTuple|TypedDict|TYPE_CHECKING|abstractmethod)\b|dataclass|overload|contextmanager"
)
DUNDERS = {"__init__", "__eq__", "__repr__", "__str__", "__len__"}
NO_NODES = {
    "With": "L6", "Match": "L6", "Global": "L6", "Nonlocal": "L6", "Yield": "L6", "YieldFrom": "L6",
    "AsyncFor": "L6", "AsyncWith": "L6", "AsyncFunctionDef": "L6", "Await": "L6", "TryStar": "L6",
    "GeneratorExp": "L7", "NamedExpr": "L7", "Div": "L7", "MatMult": "L7",
}
ON_THE_SPOT = {"zip", "enumerate", "reversed", "range", "items", "keys", "values"}
FUNCTIONS = (ast.FunctionDef, ast.Lambda)


def called(node):
    """The name of what a call calls, or None."""
    if not isinstance(node, ast.Call):
        return None
    return getattr(node.func, "id", getattr(node.func, "attr", None))


def text_faults(text):
    lines = text.split("\n")
    if len(lines) > 401:
        yield "L10", 401
    for at, line in enumerate(lines, 1):
        if len(line) > 120:
            yield "L10", at
        if any(not " " <= character <= "~" for character in line):
            yield "L14", at
        if NO_WORDS.search(line):
            yield "L17", at


def is_plain(node, names):
    if isinstance(node, ast.Constant):
        return True
    if isinstance(node, ast.Name):
        return node.id in names
    return isinstance(node, (ast.UnaryOp, ast.BinOp, ast.List, ast.Tuple, ast.Dict)) and all(
        is_plain(part, names) for part in ast.iter_child_nodes(node)
        if not isinstance(part, (ast.expr_context, ast.operator, ast.unaryop))
    )


def module_faults(tree):
    bound = []
    below_imports = False
    for at, node in enumerate(tree.body):
        if isinstance(node, ast.ImportFrom):
            bound += [alias.asname or alias.name for alias in node.names]
            if below_imports:
                yield "L2", node.lineno
            if node.level or node.names[0].name == "*" or not (node.module or "").startswith(PACKAGE + "."):
                yield "L2", node.lineno
        elif isinstance(node, (ast.FunctionDef, ast.ClassDef)):
            below_imports = True
            bound.append(node.name)
        elif isinstance(node, ast.Assign):
            below_imports = True
            if len(node.targets) != 1 or not isinstance(node.targets[0], ast.Name) or not is_plain(node.value, bound):
                yield "L3", node.lineno
            else:
                bound.append(node.targets[0].id)
        elif not (at == 0 and isinstance(node, ast.Expr) and isinstance(node.value, ast.Constant)):
            yield "L3", node.lineno
    if len(bound) != len(set(bound)):
        yield "L15", 1


def class_faults(node):
    if node.decorator_list or node.keywords or len(node.bases) > 1:
        yield "L5", node.lineno
    for part in node.body:
        docstring = isinstance(part, ast.Expr) and isinstance(part.value, ast.Constant)
        if not docstring and not isinstance(part, (ast.FunctionDef, ast.Pass)):
            yield "L5", part.lineno


def function_faults(node):
    if node.args.vararg or node.args.kwarg or node.args.posonlyargs:
        yield "L4", node.lineno
    if isinstance(node, ast.FunctionDef):
        if node.decorator_list:
            yield "L4", node.lineno
        if node.end_lineno - node.lineno + 1 > 40:
            yield "L10", node.lineno


def bound_names(tree):
    """All names that code binds, with the node that does."""
    for node in ast.walk(tree):
        if isinstance(node, (ast.FunctionDef, ast.ClassDef)):
            yield node.name, node
        elif isinstance(node, ast.arg):
            yield node.arg, node
        elif isinstance(node, ast.Name) and not isinstance(node.ctx, ast.Load):
            yield node.id, node
        elif isinstance(node, ast.ExceptHandler) and node.name:
            yield node.name, node
        elif isinstance(node, ast.ImportFrom):
            for alias in node.names:
                yield alias.asname or alias.name, node


def name_faults(tree):
    methods = [part for node in ast.walk(tree) if isinstance(node, ast.ClassDef) for part in node.body]
    imports = {alias.asname or alias.name for node in tree.body if isinstance(node, ast.ImportFrom)
               for alias in node.names}
    top = imports | {node.name for node in tree.body if isinstance(node, ast.ClassDef)}
    known = set(BUILTINS)
    for name, node in bound_names(tree):
        known.add(name)
        if name.startswith("_") and not (node in methods and name in DUNDERS):
            yield "L12", node.lineno
        if name in NEVER | NO_NAMES:
            yield "L17", node.lineno
        if node not in methods and hasattr(builtins, name):
            yield "L15", node.lineno
        if name in top and not isinstance(node, (ast.ImportFrom, ast.ClassDef)):
            yield "L15", node.lineno
    for node in ast.walk(tree):
        if isinstance(node, ast.Name) and node.id not in known:
            yield "L8", node.lineno


def attribute_faults(tree):
    own = {part.name for node in ast.walk(tree) if isinstance(node, ast.ClassDef)
           for part in node.body if isinstance(part, ast.FunctionDef)}
    for node in ast.walk(tree):
        if isinstance(node, ast.Attribute) and (node.attr in NEVER | {"format", "format_map"}):
            yield "L17", node.lineno
        if isinstance(node, ast.Call) and isinstance(node.func, ast.Attribute):
            if node.func.attr not in METHODS | own:
                yield "L25", node.lineno


def place_faults(tree):
    """Sets, and what is iterated at once, stand only where L23 and L24 let them."""
    for parent in ast.walk(tree):
        for node in ast.iter_child_nodes(parent):
            is_set = isinstance(node, (ast.Set, ast.SetComp)) or called(node) == "set"
            stored_once = isinstance(parent, ast.Assign) and isinstance(parent.targets[0], ast.Name)
            if is_set and not stored_once and not isinstance(parent, (ast.Compare, ast.BinOp)):
                if called(parent) not in ("len", "sorted"):
                    yield "L24", node.lineno
            if called(node) in ON_THE_SPOT and isinstance(parent, (ast.Assign, ast.Return, ast.Tuple, ast.List)):
                yield "L23", node.lineno


def node_faults(node):
    name = node.__class__.__name__
    line = getattr(node, "lineno", 0)
    if name in NO_NODES:
        yield NO_NODES[name], line
    if name == "Import":
        yield "L16", line
    if name in ("For", "While") and node.orelse:
        yield "L6", line
    if name == "Starred" and isinstance(node.ctx, ast.Load):
        yield "L7", line
    if name == "FormattedValue" and node.format_spec:
        yield "L7", line
    if name == "Constant":
        if isinstance(node.value, (float, complex)):
            yield "L7", line
        if isinstance(node.value, str) and "%" in node.value:
            yield "L27", line
    if name == "BinOp" and isinstance(node.op, ast.Pow) and not isinstance(node.right, ast.Constant):
        yield "L27", line
    if called(node) == "chr":
        yield "L27", line
    if name == "Compare":
        for sign, side in zip(node.ops, node.comparators):
            if isinstance(sign, (ast.Is, ast.IsNot)) and ast.unparse(side) not in ("None", "True", "False"):
                yield "L20", line
    if name == "ExceptHandler" and (node.type is None or getattr(node.type, "id", "") in ("Exception", "TypeError")):
        yield "L19", line
    if name == "Raise" and node.exc is not None and not isinstance(node.exc, ast.Call):
        yield "L19", line


def faults(text):
    """All that is found in the text of one file, as (rule, line)."""
    tree = ast.parse(text)
    found = list(text_faults(text)) + list(module_faults(tree)) + list(name_faults(tree))
    found += list(attribute_faults(tree)) + list(place_faults(tree))
    for node in ast.walk(tree):
        found += list(node_faults(node))
        if isinstance(node, ast.ClassDef):
            found += list(class_faults(node))
        if isinstance(node, FUNCTIONS):
            found += list(function_faults(node))
    return found


def imports_of(path):
    tree = ast.parse(path.read_text())
    return [(node.module.split(".")[-1], alias.name) for node in tree.body if isinstance(node, ast.ImportFrom)
            for alias in node.names]


class Package(unittest.TestCase):
    def test_the_folder_has_only_plain_files(self):
        names = [path.name for path in FOLDER.iterdir() if path.name != "__pycache__"]
        self.assertIn("__init__.py", names)
        for name in names:
            self.assertRegex(name, r"^(__init__|__main__|[a-z][a-z0-9_]*)\.py$")
            self.assertFalse(name[0] != "_" and hasattr(builtins, name[:-3]), name)

    def test_no_rule_is_broken(self):
        for path in sorted(FOLDER.glob("*.py")):
            self.assertEqual(faults(path.read_text()), [], path.name)

    def test_each_import_names_the_file_that_defines_the_name(self):
        for path in FOLDER.glob("*.py"):
            for module, name in imports_of(path):
                tree = ast.parse((FOLDER / (module + ".py")).read_text())
                here = [getattr(node, "name", None) for node in tree.body]
                here += [node.targets[0].id for node in tree.body if isinstance(node, ast.Assign)]
                self.assertIn(name, here, path.name)

    def test_no_two_files_import_from_each_other(self):
        below = {path.stem: {module for module, name in imports_of(path)} for path in FOLDER.glob("*.py")}
        while below:
            leaves = [stem for stem, modules in below.items() if not modules & set(below)]
            self.assertTrue(leaves, below)
            for stem in leaves:
                del below[stem]


BROKEN = [
    ("L2", "import_later = 1\nfrom nearorders.errors import NoRow\n"), ("L2", "from math import gcd\n"),
    ("L2", "from .errors import NoRow\n"), ("L16", "def f():\n    import math\n"), ("L3", "print(1)\n"),
    ("L3", "A = len('a')\n"), ("L4", "def f(*xs):\n    return xs\n"), ("L5", "class A:\n    b = 1\n"),
    ("L6", "def f():\n    yield 1\n"), ("L6", "def f(xs):\n    for x in xs:\n        pass\n    else:\n        pass\n"),
    ("L7", "def f(xs):\n    return all(x for x in xs)\n"), ("L7", "def f(x):\n    return x / 2\n"),
    ("L7", "def f(xs):\n    return [*xs]\n"), ("L7", "A = 1.5\n"), ("L8", "def f(x):\n    return pow(x, 2)\n"),
    ("L10", "def f():\n" + "    pass\n" * 40), ("L10", "A = '" + "a" * 120 + "'\n"), ("L12", "def _f():\n    pass\n"),
    ("L14", "A = '\u00e4'\n"), ("L15", "def f(map):\n    return map\n"), ("L15", "A = 1\nA = 2\n"),
    ("L15", "from nearorders.rows import is_row\n\n\ndef f(is_row):\n    pass\n"), ("L17", "# a type\n"),
    ("L17", "def f(vars):\n    pass\n"), ("L19", "def f():\n    raise ValueError\n"),
    ("L19", "def f():\n    try:\n        pass\n    except Exception:\n        pass\n"),
    ("L20", "def f(x, y):\n    return x is y\n"), ("L23", "def f(x):\n    return range(x)\n"),
    ("L24", "def f(xs):\n    return set(xs)\n"), ("L25", "def f(x):\n    return x.zap()\n"), ("L27", "A = '%'\n"),
    ("L27", "def f(x):\n    return 2 ** x\n"),
]


class Checks(unittest.TestCase):
    def test_what_breaks_a_rule_is_found(self):
        for rule, text in BROKEN:
            self.assertIn(rule, [found for found, line in faults(text)], text)

    def test_what_breaks_none_is_let_through(self):
        text = "A = (1, -2)\n\n\ndef f(xs):\n    seen = set(xs)\n    return len(seen) == len(set(xs)) and xs is not None\n"
        self.assertEqual(faults(text), [])


if __name__ == "__main__":
    unittest.main()
