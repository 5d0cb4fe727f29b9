"""The package keeps to the rules L1 to L28, as far as a look at the code can tell.

Each fault is told as (rule, line); the samples at the end show that faults are seen.
"""

import ast
import builtins
import pathlib
import re
import unittest

PACKAGE = pathlib.Path(__file__).resolve().parent.parent / "vellum"

BUILTINS = set(
    "len range enumerate zip min max sum abs sorted reversed int str bool list tuple dict set frozenset "
    "isinstance ord repr any all divmod Exception ValueError TypeError KeyError IndexError LookupError "
    "ZeroDivisionError ArithmeticError OverflowError RuntimeError NotImplementedError AttributeError "
    "StopIteration".split())
METHODS = set(
    "append clear copy count endswith extend find get index insert isalnum isalpha isdigit islower isspace "
    "isupper items join keys ljust lower lstrip partition pop remove replace reverse rfind rjust rpartition "
    "rsplit rstrip setdefault split splitlines startswith strip update upper values zfill bit_length".split())
DUNDERS = ("__init__", "__eq__", "__repr__", "__str__", "__len__")
WORDS = re.compile(
    r"\b(type|typing|typing_extensions|enum|Enum|IntEnum|StrEnum|Flag|IntFlag|Generic|Protocol|ABC|ABCMeta"
    r"|namedtuple|NamedTuple|TypedDict|TYPE_CHECKING|abstractmethod)\b|dataclass|overload|contextmanager")
UNUSED_NAMES = set(
    "register mro elements open input version_info with_traceback add_note attrgetter breakpoint builtins "
    "compile copyright credits delattr dir eval exec exit gc getattr globals hasattr help id importlib license "
    "locals methodcaller os quit setattr super type vars sys chr print __name__".split())
BAD_FILES = set("test tests testing site conftest sitecustomize usercustomize".split()) | set(dir(builtins))
WALKED = ("zip", "enumerate", "reversed", "range")
NODES = tuple(getattr(ast, name) for name in (
    "Module FunctionDef arguments arg ClassDef ImportFrom alias Assign AugAssign If While For Return Break Continue "
    "Pass Raise Try ExceptHandler Expr Name Constant List Tuple Dict Set BinOp UnaryOp BoolOp Compare IfExp Call "
    "Attribute Subscript Slice ListComp comprehension JoinedStr FormattedValue Lambda keyword Load Store "
    "Add Sub Mult FloorDiv Mod Pow LShift RShift BitOr BitXor BitAnd Invert Not UAdd USub And Or "
    "Eq NotEq Lt LtE Gt GtE Is IsNot In NotIn").split())


def text_faults(source):
    for number, line in enumerate(source.split("\n"), start=1):
        if len(line) > 120 or "\t" in line:
            yield ("L10", number)
        if not all(" " <= sign <= "~" for sign in line):
            yield ("L14", number)
        if WORDS.search(line):
            yield ("L17", number)
    if source.count("\n") > 400:
        yield ("L10", 401)


def is_plain(node, known):
    if isinstance(node, (ast.List, ast.Tuple)):
        return all(is_plain(part, known) for part in node.elts)
    if isinstance(node, ast.Dict):
        return all(is_plain(part, known) for part in node.keys + node.values)
    if isinstance(node, ast.UnaryOp) and isinstance(node.op, ast.USub):
        return is_plain(node.operand, known)
    return isinstance(node, ast.Constant) or isinstance(node, ast.Name) and node.id in known


def top_faults(tree):
    bound = []
    functions = []
    for place, node in enumerate(tree.body):
        if isinstance(node, ast.Expr):
            if place > 0 or not isinstance(node.value, ast.Constant):
                yield ("L3", node.lineno)
        elif isinstance(node, ast.ImportFrom):
            bound += [(name.asname or name.name, node.lineno) for name in node.names]
        elif isinstance(node, (ast.FunctionDef, ast.ClassDef)):
            bound.append((node.name, node.lineno))
            functions.append(node.name)
        elif isinstance(node, ast.Assign) and isinstance(node.targets[0], ast.Name):
            bound.append((node.targets[0].id, node.lineno))
            if not is_plain(node.value, functions):
                yield ("L3", node.lineno)
        else:
            yield ("L3", node.lineno)
    names = [name for name, line in bound]
    for name, line in bound:
        if names.count(name) > 1:
            yield ("L15", line)


def def_faults(node):
    if isinstance(node, ast.ClassDef):
        if len(node.bases) > 1 or node.keywords or node.decorator_list:
            yield ("L5", node.lineno)
        for part in node.body:
            if not isinstance(part, (ast.FunctionDef, ast.Pass)):
                yield ("L5", part.lineno)
    if isinstance(node, ast.FunctionDef):
        if node.end_lineno - node.lineno + 1 > 40:
            yield ("L10", node.lineno)
        if node.decorator_list:
            yield ("L4", node.lineno)
        if node.returns or any(one.annotation for one in node.args.args):
            yield ("L21", node.lineno)
    if isinstance(node, (ast.FunctionDef, ast.Lambda)):
        held = node.args
        if held.vararg or held.kwarg or held.kwonlyargs or held.posonlyargs:
            yield ("L4", node.lineno)


def bound_names(tree):
    for node in ast.walk(tree):
        if isinstance(node, (ast.FunctionDef, ast.ClassDef)):
            yield (node.name, node.lineno)
        elif isinstance(node, ast.arg):
            yield (node.arg, node.lineno)
        elif isinstance(node, ast.Name) and isinstance(node.ctx, ast.Store):
            yield (node.id, node.lineno)
        elif isinstance(node, ast.ExceptHandler) and node.name:
            yield (node.name, node.lineno)


def own_methods(tree):
    return {part.name for node in ast.walk(tree) if isinstance(node, ast.ClassDef)
            for part in node.body if isinstance(part, ast.FunctionDef)}


def own_names(tree):
    """The methods of a file's classes, and the values that it gives to objects."""
    return own_methods(tree) | {node.attr for node in ast.walk(tree)
                                if isinstance(node, ast.Attribute) and isinstance(node.ctx, ast.Store)}


def attribute_faults(tree, own):
    for node in ast.walk(tree):
        if isinstance(node, ast.Attribute) and node.attr not in METHODS | own | {"__init__"}:
            yield ("L25", node.lineno)


def name_faults(tree):
    methods = own_methods(tree)
    classes = [node.name for node in tree.body if isinstance(node, ast.ClassDef)]
    taken = [name.name for node in tree.body if isinstance(node, ast.ImportFrom) for name in node.names]
    named = [name for name, line in bound_names(tree)]
    for name, line in bound_names(tree):
        if name in DUNDERS and name in methods:
            continue
        if name.startswith("_") or not re.fullmatch("[A-Za-z0-9_]+", name):
            yield ("L12", line)
        twice = name in classes and named.count(name) > 1
        if name not in methods and (name in dir(builtins) or name in taken or twice):
            yield ("L15", line)
    for node in ast.walk(tree):
        if isinstance(node, ast.Name) and node.id in UNUSED_NAMES:
            yield ("L17", node.lineno)
        if isinstance(node, ast.Name) and node.id in set(dir(builtins)) - BUILTINS:
            yield ("L8", node.lineno)


def expression_faults(node):
    if isinstance(node, ast.Constant):
        if isinstance(node.value, (float, bytes, complex)):
            yield ("L7", node.lineno)
        if isinstance(node.value, str) and "%" in node.value:
            yield ("L27", node.lineno)
    if isinstance(node, ast.BinOp) and isinstance(node.op, ast.Pow):
        right = node.right
        if not isinstance(right, ast.Constant) or not 0 <= right.value <= 64:
            yield ("L27", node.lineno)
    if isinstance(node, ast.ListComp) and (len(node.generators) > 1 or len(node.generators[0].ifs) > 1):
        yield ("L7", node.lineno)
    if isinstance(node, ast.FormattedValue):
        if not isinstance(node.value, ast.Name) or node.format_spec or node.conversion not in (-1, ord("r")):
            yield ("L7", node.lineno)
    if isinstance(node, ast.Compare):
        sides = [node.left] + node.comparators
        for place, sign in enumerate(node.ops):
            plain = [one for one in sides[place:place + 2]
                     if isinstance(one, ast.Constant) and one.value in (None, True, False)]
            if isinstance(sign, (ast.Is, ast.IsNot)) and not plain:
                yield ("L20", node.lineno)


def statement_faults(node):
    if isinstance(node, ast.Assign) and len(node.targets) > 1:
        yield ("L6", node.lineno)
    if isinstance(node, (ast.For, ast.While)) and node.orelse:
        yield ("L6", node.lineno)
    if isinstance(node, ast.Try) and node.finalbody:
        yield ("L6", node.lineno)
    if isinstance(node, ast.Expr) and not isinstance(node.value, (ast.Call, ast.Constant)):
        yield ("L6", node.lineno)
    if isinstance(node, ast.ExceptHandler):
        held = node.type.elts if isinstance(node.type, ast.Tuple) else [node.type]
        for one in held:
            if not isinstance(one, ast.Name) or one.id in ("Exception", "TypeError"):
                yield ("L19", node.lineno)
    if isinstance(node, ast.Raise) and not isinstance(node.exc, ast.Call):
        yield ("L19", node.lineno)
    if isinstance(node, ast.ImportFrom):
        if node.level or not (node.module or "").startswith("vellum.") or node.names[0].name == "*":
            yield ("L2", node.lineno)


def walk_faults(tree):
    """What is walked on the spot may not be kept (L23), nor may a set (L24)."""
    for node in ast.walk(tree):
        for part in ast.iter_child_nodes(node):
            called = part.func.id if isinstance(part, ast.Call) and isinstance(part.func, ast.Name) else ""
            walks = isinstance(node, (ast.For, ast.comprehension)) or isinstance(node, ast.Call)
            if called in WALKED and not walks:
                yield ("L23", part.lineno)
            beside = isinstance(node, (ast.Compare, ast.BinOp)) or (
                isinstance(node, ast.Call) and isinstance(node.func, ast.Name) and node.func.id in ("sorted", "len"))
            if (called in ("set", "frozenset") or isinstance(part, ast.Set)) and not beside:
                yield ("L24", part.lineno)


def faults(source, own):
    tree = ast.parse(source)
    found = list(text_faults(source)) + list(top_faults(tree)) + list(name_faults(tree)) + list(walk_faults(tree))
    found += list(attribute_faults(tree, own))
    for node in ast.walk(tree):
        if not isinstance(node, NODES):
            found.append(("L6", getattr(node, "lineno", 0)))
        found += list(def_faults(node)) + list(expression_faults(node)) + list(statement_faults(node))
    return found


def drawn_from(source):
    return {node.module.split(".")[1]: [name.name for name in node.names]
            for node in ast.walk(ast.parse(source)) if isinstance(node, ast.ImportFrom)}


def defined_in(source):
    tree = ast.parse(source)
    names = [node.name for node in tree.body if isinstance(node, (ast.FunctionDef, ast.ClassDef))]
    return names + [node.targets[0].id for node in tree.body if isinstance(node, ast.Assign)]


class Package(unittest.TestCase):
    def sources(self):
        return {path.stem: path.read_bytes().decode("ascii") for path in sorted(PACKAGE.glob("*.py"))}

    def test_only_plain_files(self):
        for path in PACKAGE.iterdir():
            if path.name == "__pycache__":
                continue
            self.assertTrue(path.is_file(), path)
            self.assertRegex(path.name, r"\A([a-z][a-z0-9_]*|__init__|__main__)\.py\Z")
            self.assertNotIn(path.stem, BAD_FILES)
        self.assertIn("__init__", self.sources())

    def test_every_file_keeps_the_rules(self):
        sources = self.sources()
        own = set().union(*[own_names(ast.parse(source)) for source in sources.values()])
        for name, source in sources.items():
            self.assertEqual(faults(source, own), [], name)

    def test_names_are_drawn_from_the_file_that_defines_them(self):
        sources = self.sources()
        for name, source in sources.items():
            for other, drawn in drawn_from(source).items():
                for one in drawn:
                    self.assertIn(one, defined_in(sources[other]), name)

    def test_no_two_files_draw_from_one_another(self):
        left = {name: set(drawn_from(source)) for name, source in self.sources().items()}
        while left:
            free = [name for name in left if not left[name]]
            self.assertTrue(free, left)
            left = {name: others - set(free) for name, others in left.items() if name not in free}


class Samples(unittest.TestCase):
    def test_faults_are_seen(self):
        for rule, source in (
                ("L6", "import os\n"), ("L2", "from .words import is_word\n"), ("L3", "A = len('a')\n"),
                ("L3", "print()\n"), ("L4", "def f(*a):\n    return a\n"), ("L5", "class A:\n    b = 1\n"),
                ("L6", "def f(a):\n    b = c = a\n"), ("L6", "def f(a):\n    with a:\n        pass\n"),
                ("L6", "def f(a):\n    assert a\n"), ("L6", "def f(a):\n    return any(x for x in a)\n"),
                ("L7", "A = 1.5\n"), ("L7", "def f(a):\n    return [x for y in a for x in y]\n"),
                ("L8", "def f(a):\n    return hash(a)\n"), ("L10", "A = '" + "a" * 120 + "'\n"),
                ("L10", "def f(a):\n" + "    a = a\n" * 40), ("L12", "def _f(a):\n    return a\n"),
                ("L14", "# \u00e9\n"), ("L15", "A = 1\nA = 2\n"), ("L15", "def f(min):\n    return min\n"),
                ("L17", "# a type\n"),
                ("L19", "def f(a):\n    try:\n        f(a)\n    except Exception:\n        pass\n"),
                ("L20", "def f(a, b):\n    return a is b\n"), ("L21", "def f(a: int):\n    return a\n"),
                ("L23", "def f(a):\n    b = zip(a, a)\n    return b\n"), ("L24", "def f(a):\n    return set(a)\n"),
                ("L25", "def f(a):\n    a.sort()\n"), ("L27", "def f(a):\n    return 2 ** a\n"), ("L27", "A = '%'\n")):
            self.assertIn(rule, [fault[0] for fault in faults(source, set())], source)

    def test_plain_code_has_no_fault(self):
        source = "\"\"\"A file.\"\"\"\n\nA = (1, -2)\n\n\ndef f(a):\n    return [x for x in a if x is not None]\n"
        self.assertEqual(faults(source, set()), [])


if __name__ == "__main__":
    unittest.main()
