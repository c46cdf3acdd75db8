"""The package's files keep to the small part of Python that the program is written in.

Only some of the rules are asked here: L1 to L8, L10, L12 and L14 to L28, and of these not every word; of L21 and L28
more is asked than they ask (no annotation, no method with two underscores but __init__). The others (L9, L11, L13) are
left to the reader. A fault begins with its rule's number.
"""

import ast
import builtins
import pathlib
import re
import unittest

PACKAGE = pathlib.Path(__file__).resolve().parent.parent / "idlegraph"

NODES = (
    "Module Import ImportFrom alias FunctionDef ClassDef arguments arg Assign AugAssign AnnAssign If While For Return "
    "Break Continue Pass Raise Try ExceptHandler Expr Constant List Tuple Dict Set BinOp BoolOp UnaryOp Compare IfExp "
    "Call Attribute Subscript Slice ListComp comprehension JoinedStr FormattedValue Lambda Name Load Store keyword "
    "Add Sub Mult FloorDiv Mod Pow BitAnd BitOr BitXor LShift RShift Invert And Or Not USub UAdd "
    "Eq NotEq Lt LtE Gt GtE Is IsNot In NotIn").split()

OWN_NAMES = (
    "len range enumerate zip min max sum abs sorted reversed int str bool list tuple dict set frozenset isinstance ord "
    "repr any all divmod Exception ValueError TypeError KeyError IndexError LookupError ZeroDivisionError "
    "ArithmeticError OverflowError RuntimeError NotImplementedError StopIteration").split()

METHODS = (
    "append clear copy count endswith extend find get index insert isalnum isalpha isdigit islower isspace isupper "
    "items join keys ljust lower lstrip partition pop remove replace reverse rfind rjust rpartition rsplit rstrip "
    "setdefault split splitlines startswith strip update upper values zfill bit_length").split()

BARRED_WORDS = (
    "type typing typing_extensions enum Enum IntEnum StrEnum Flag IntFlag Generic Protocol ABC ABCMeta namedtuple "
    "NamedTuple TypedDict TYPE_CHECKING abstractmethod").split()

BARRED_NAMES = "register mro elements open input version_info with_traceback add_note format format_map".split()

WALKED = "zip enumerate reversed range items keys values".split()

TAKERS = "list tuple dict sorted sum any all enumerate zip min max".split()

KEYWORDS = {"sorted": ("key", "reverse"), "min": ("key", "default"), "max": ("key", "default"), "sum": ("start",),
            "enumerate": ("start",), "zip": ("strict",)}

KEYS = "len int str abs sum min max tuple".split()

# What Python's own values have as methods or values, and an object of the package may have all the same.
OWN_METHODS = METHODS + ["add", "discard"]

OWN_VALUES = "count index title find get join lower upper split strip copy add".split()

PYTHONS = {name for value in ("", 0, [], {}, set(), b"") for name in dir(value)} | {"args"}

DUNDERS = "__init__ __eq__ __repr__ __str__ __len__".split()

TOP = (ast.ImportFrom, ast.FunctionDef, ast.ClassDef, ast.Assign)


def sign_faults(source):
    faults = []
    for number, line in enumerate(source.split("\n"), start=1):
        if len(line) > 120:
            faults.append(f"L10 line {number}: too long")
        if [sign for sign in line if not " " <= sign <= "~"]:
            faults.append(f"L14 line {number}: a sign beyond blank to tilde")
    if source.count("\n") > 400:
        faults.append("L10 file: too long")
    for word in BARRED_WORDS:
        if re.search(r"\b" + word + r"\b", source):
            faults.append(f"L17 the word {word}")
    if re.search("dataclass|overload|contextmanager", source):
        faults.append("L17 a barred word within a word")
    return faults


def top_faults(tree):
    faults = []
    bound = []
    for place, node in enumerate(tree.body):
        docstring = place == 0 and isinstance(node, ast.Expr) and isinstance(node.value, ast.Constant)
        if not docstring and not isinstance(node, TOP):
            faults.append(f"L3 line {node.lineno}: not for a file's top")
        if isinstance(node, ast.ImportFrom):
            bound.extend(alias.name for alias in node.names)
        if isinstance(node, (ast.FunctionDef, ast.ClassDef)):
            bound.append(node.name)
        if isinstance(node, ast.Assign):
            bound.extend(target.id for target in node.targets)
    for name in bound:
        if bound.count(name) > 1:
            faults.append(f"L15 {name} is bound twice at the top")
    return faults


def def_faults(node):
    faults = []
    given = node.args
    if node.decorator_list or given.vararg or given.kwarg or given.kwonlyargs or given.posonlyargs:
        faults.append("L4 plain parameters and no decorator")
    if node.end_lineno - node.lineno >= 40:
        faults.append("L10 a function too long")
    return faults


def class_faults(node):
    faults = []
    if node.decorator_list or len(node.bases) > 1 or node.keywords:
        faults.append("L5 one base at most, no decorator")
    for inner in node.body:
        if not isinstance(inner, (ast.FunctionDef, ast.Pass)):
            faults.append("L5 nothing but methods in a class body")
    return faults


def import_faults(node):
    if node.level or not (node.module or "").startswith("idlegraph."):
        return ["L2 only the package's own files, by their full names"]
    return ["L16 no star and no other name" for alias in node.names if alias.name == "*" or alias.asname]


def name_faults(name):
    if name in DUNDERS:
        return []
    if not re.fullmatch("[A-Za-z][A-Za-z0-9_]*", name):
        return [f"L12 {name}"]
    if name in BARRED_NAMES:
        return [f"L17 {name}"]
    return []


def bound_names(tree):
    nodes = list(ast.walk(tree))
    names = [node.id for node in nodes if isinstance(node, ast.Name) and isinstance(node.ctx, ast.Store)]
    return names + [node.arg for node in nodes if isinstance(node, ast.arg)]


# What is bound at a file's top and is no plain def or value: an import or a class.
def drawn_names(tree):
    names = [node.name for node in tree.body if isinstance(node, ast.ClassDef)]
    for node in tree.body:
        if isinstance(node, ast.ImportFrom):
            names.extend(alias.name for alias in node.names)
    return names


def object_values(tree):
    return [node.attr for node in ast.walk(tree) if isinstance(node, ast.Attribute) and isinstance(node.ctx, ast.Store)]


def class_name_faults(tree):
    faults = [f"L26 the value {name}" for name in object_values(tree) if name in PYTHONS and name not in OWN_VALUES]
    for name in methods_in(tree):
        if name != "__init__" and (name in PYTHONS and name not in OWN_METHODS or name.startswith("__")):
            faults.append(f"L26/L28 the method {name}")
    return faults


def init_faults(node):
    if node.name != "__init__":
        return []
    return ["L28 __init__ gives back nothing" for inner in ast.walk(node) if isinstance(inner, ast.Return)]


def annotation_faults(node):
    noted = isinstance(node, ast.AnnAssign) or getattr(node, "annotation", None) or getattr(node, "returns", None)
    return ["L21 an annotation"] if noted else []


def error_faults(node):
    if isinstance(node, ast.Raise):
        return [] if isinstance(node.exc, ast.Call) else ["L19 raise makes its error on the spot"]
    if not isinstance(node, ast.ExceptHandler):
        return []
    taken = node.type.elts if isinstance(node.type, ast.Tuple) else [node.type]
    named = all(isinstance(one, ast.Name) and one.id not in ("Exception", "TypeError") for one in taken)
    return [] if named else ["L19 errors are taken by name"]


# A set stands straight within sorted or len, or beside a comparison, and nowhere else.
def set_faults(tree):
    fine = []
    for node in ast.walk(tree):
        if isinstance(node, ast.Call) and getattr(node.func, "id", "") in ("sorted", "len") and not node.keywords:
            fine.extend(node.args)
        if isinstance(node, ast.Compare):
            fine.extend([node.left] + node.comparators)
    written = [node for node in ast.walk(tree) if node not in fine and (
        isinstance(node, ast.Set) or isinstance(node, ast.Call) and getattr(node.func, "id", "") in ("set", "frozenset"))]
    return [f"L24 a set, line {node.lineno}" for node in written]


def keyword_faults(node):
    if not isinstance(node, ast.Call) or isinstance(node.func, ast.Attribute) and node.func.attr not in METHODS:
        return []
    name = getattr(node.func, "id", "a method of Python's own")
    barred = isinstance(node.func, ast.Attribute) or hasattr(builtins, name)
    return [f"L22 {given.arg} at {name}" for given in node.keywords if barred and given.arg not in KEYWORDS.get(name, ())]


# Python's own are called, and not kept or handed on.
def kept_faults(tree):
    fine = []
    for node in ast.walk(tree):
        if isinstance(node, ast.Call):
            fine.append(node.func)
            fine.extend(given.value for given in node.keywords
                        if given.arg == "key" and getattr(given.value, "id", "") in KEYS)
            if getattr(node.func, "id", "") == "isinstance":
                fine.extend(ast.walk(node.args[1]))
        if isinstance(node, ast.ClassDef):
            fine.extend(node.bases)
        if isinstance(node, ast.ExceptHandler) and node.type:
            fine.extend(ast.walk(node.type))
    names = [node for node in ast.walk(tree) if isinstance(node, ast.Name) and node not in fine]
    return [f"L22 {node.id} is not called, line {node.lineno}" for node in names if node.id in OWN_NAMES]


# Places where what may only be walked at once is walked: loops, comprehensions, and a few of Python's own.
def walk_faults(tree):
    walked = []
    for node in ast.walk(tree):
        if isinstance(node, (ast.For, ast.comprehension)):
            walked.append(node.iter)
        if isinstance(node, ast.Call) and isinstance(node.func, ast.Name) and node.func.id in TAKERS:
            walked.extend(node.args if node.func.id == "zip" else node.args[:1])
        if isinstance(node, ast.Call) and isinstance(node.func, ast.Attribute) and node.func.attr == "join":
            walked.extend(node.args)
    faults = []
    for node in ast.walk(tree):
        if isinstance(node, ast.Call) and node not in walked:
            name = node.func.id if isinstance(node.func, ast.Name) else getattr(node.func, "attr", "")
            if name in WALKED:
                faults.append(f"L23 {name} is not walked at once, line {node.lineno}")
    return faults


def value_faults(node, methods):
    if isinstance(node, ast.Name):
        barred = hasattr(builtins, node.id) and node.id not in OWN_NAMES
        return name_faults(node.id) + ([f"L8 {node.id}"] if barred else [])
    if isinstance(node, ast.Attribute):
        return name_faults(node.attr)
    if isinstance(node, ast.Call) and isinstance(node.func, ast.Attribute):
        known = node.func.attr in METHODS or node.func.attr in methods or node.func.attr == "__init__"
        return [] if known else [f"L25 {node.func.attr}"]
    if isinstance(node, ast.Constant):
        return constant_faults(node.value)
    if isinstance(node, ast.Compare):
        return compare_faults(node)
    if isinstance(node, ast.FormattedValue):
        return text_faults(node)
    if isinstance(node, ast.comprehension) and len(node.ifs) > 1 or isinstance(node, ast.ListComp) and \
            len(node.generators) > 1:
        return ["L7 one for and one if at most"]
    return []


def constant_faults(value):
    if isinstance(value, (float, bytes, complex)) or value is Ellipsis:
        return ["L7 a value of another sort"]
    return ["L27 a percent sign"] if isinstance(value, str) and "%" in value else []


def text_faults(node):
    plain = isinstance(node.value, ast.Name) and node.format_spec is None and node.conversion in (-1, ord("r"))
    return [] if plain else ["L7 an f-string with more than a name"]


def compare_faults(node):
    for op, right in zip(node.ops, node.comparators):
        plain = isinstance(right, ast.Constant) and (right.value is None or isinstance(right.value, bool))
        if isinstance(op, (ast.Is, ast.IsNot)) and not plain:
            return ["L20 is beside another value"]
    return []


def statement_faults(node):
    if type(node).__name__ not in NODES:
        return [f"L6/L7 {type(node).__name__}"]
    if isinstance(node, ast.Assign) and len(node.targets) > 1:
        return ["L6 one target"]
    if isinstance(node, (ast.For, ast.While)) and node.orelse:
        return ["L6 no else behind a loop"]
    if isinstance(node, ast.Try) and node.finalbody:
        return ["L6 no finally"]
    if isinstance(node, ast.Expr) and not isinstance(node.value, ast.Call):
        return ["L6 a value by itself"]
    return []


def node_faults(node, methods):
    faults = statement_faults(node) + value_faults(node, methods) + annotation_faults(node) + error_faults(node)
    faults = faults + keyword_faults(node)
    if isinstance(node, ast.FunctionDef):
        faults = faults + def_faults(node) + init_faults(node) + name_faults(node.name)
    if isinstance(node, ast.ClassDef):
        faults = faults + class_faults(node) + name_faults(node.name)
    if isinstance(node, ast.ImportFrom):
        faults = faults + import_faults(node)
    return [f"{fault}, line {node.lineno}" if hasattr(node, "lineno") else fault for fault in faults]


def methods_in(tree):
    classes = [node for node in tree.body if isinstance(node, ast.ClassDef)]
    return [inner.name for node in classes for inner in node.body if isinstance(inner, ast.FunctionDef)]


def methods_of(sources):
    return [name for source in sources for name in methods_in(ast.parse(source))]


def faults_of(source, methods):
    tree = ast.parse(source)
    faults = sign_faults(source) + top_faults(tree)
    for name in bound_names(tree):
        if hasattr(builtins, name):
            faults.append(f"L15 {name} is a name of Python's own")
        if name in drawn_names(tree):
            faults.append(f"L15 {name} is called like a class or an import")
    faults.extend(f"L18 {name} is a method and a value" for name in object_values(tree) if name in methods)
    faults.extend(walk_faults(tree) + kept_faults(tree) + set_faults(tree) + class_name_faults(tree))
    docstrings = [node.value for node in tree.body[:1] if isinstance(node, ast.Expr)]
    for node in ast.walk(tree):
        if not (isinstance(node, ast.Expr) and node.value in docstrings):
            faults.extend(node_faults(node, methods))
    return faults


class Language(unittest.TestCase):

    def test_the_folder_holds_plain_files_alone(self):
        self.assertTrue((PACKAGE / "__init__.py").is_file())
        for path in PACKAGE.iterdir():
            with self.subTest(path.name):
                if path.name != "__pycache__":
                    self.assertRegex(path.name, r"\A[a-z_][a-z0-9_]*\.py\Z")

    def test_each_file_keeps_to_the_rules(self):
        sources = {path.name: path.read_text(encoding="utf-8") for path in sorted(PACKAGE.glob("*.py"))}
        methods = methods_of(sources.values())
        for name, source in sources.items():
            with self.subTest(name):
                self.assertEqual(faults_of(source, methods), [])

    def test_names_are_drawn_from_the_file_that_binds_them(self):
        drawn = {path.stem: {} for path in PACKAGE.glob("*.py")}
        for path in PACKAGE.glob("*.py"):
            for node in ast.parse(path.read_text(encoding="utf-8")).body:
                if isinstance(node, ast.ImportFrom):
                    source = (PACKAGE / (node.module.split(".")[1] + ".py")).read_text(encoding="utf-8")
                    for alias in node.names:
                        pattern = rf"(?m)^(def |class )?{alias.name}\b( =|\(|:)"
                        self.assertRegex(source, pattern, f"L16 {path.name} draws {alias.name}")
                    drawn[path.stem][node.module.split(".")[1]] = True
        while drawn:
            last = [stem for stem in drawn if not [other for other in drawn[stem] if other in drawn]]
            self.assertTrue(last, f"L16 files draw from one another: {sorted(drawn)}")
            drawn = {stem: drawn[stem] for stem in drawn if stem not in last}

    def test_faults_are_seen(self):
        faulty = (
            ("L3", "import os\n"), ("L2", "from idlegraph import errors\n"), ("L2", "from .errors import NoText\n"),
            ("L3", "if 1:\n    pass\n"), ("L4", "def f(*xs):\n    return xs\n"), ("L5", "class A:\n    x = 1\n"),
            ("L6", "def f():\n    a = b = 1\n"), ("L6", "def f(x):\n    with x:\n        pass\n"),
            ("L6", "def f():\n    'text'\n"), ("L7", "def f(x):\n    return x / 2\n"), ("L7", "X = 1.5\n"),
            ("L7", "def f(xs):\n    return any(x for x in xs)\n"), ("L8", "def f(x):\n    return getattr(x, 'a')\n"),
            ("L10", "X = '" + "a" * 120 + "'\n"), ("L10", "def f():\n" + "    pass\n" * 41),
            ("L12", "def f():\n    _ = 1\n"), ("L14", "X = '\u00e9'\n"), ("L15", "X = 1\nX = 2\n"),
            ("L15", "def f(id):\n    return 1\n"), ("L17", "# its type\n"), ("L20", "def f(x):\n    return x is 'a'\n"),
            ("L7", "def f(x):\n    return f'{x[0]}'\n"), ("L7", "def f(x):\n    return f'{x:3}'\n"),
            ("L15", "from idlegraph.terms import free\n\n\ndef f(free):\n    return free\n"),
            ("L15", "class A:\n    pass\n\n\ndef f():\n    A = 1\n"), ("L18", "def f(x):\n    x.going = 1\n"),
            ("L23", "def f(x):\n    y = reversed(x)\n"), ("L23", "def f(x, y):\n    x.extend(zip(y, y))\n"),
            ("L23", "def f(x):\n    return x.items()\n"),
            ("L25", "def f(x):\n    return x.casefold()\n"), ("L27", "X = '%'\n"),
            ("L19", "def f():\n    raise ValueError\n"), ("L19", "def f():\n    try:\n        g()\n    except:\n        pass\n"),
            ("L19", "def f():\n    try:\n        g()\n    except (KeyError, TypeError):\n        pass\n"),
            ("L21", "def f(x: int):\n    return x\n"), ("L21", "def f() -> int:\n    return 1\n"), ("L21", "X: int = 1\n"),
            ("L22", "def f(xs):\n    return len\n"), ("L22", "def f(x):\n    return int(x, base=2)\n"),
            ("L22", "def f(x):\n    return x.split(sep='a')\n"), ("L22", "def f(xs):\n    return sorted(xs, key=repr)\n"),
            ("L24", "def f(xs):\n    return set(xs)\n"), ("L24", "def f(x):\n    y = {1, 2}\n"),
            ("L26", "class A:\n    def encode(self):\n        return 1\n"), ("L26", "def f(x):\n    x.items = 1\n"),
            ("L28", "class A:\n    def __len__(self):\n        return 1\n"),
            ("L28", "class A:\n    def __init__(self):\n        return None\n"))
        for rule, source in faulty:
            with self.subTest(source):
                self.assertIn(rule, " ".join(faults_of(source, ["going"])))


if __name__ == "__main__":
    unittest.main()
