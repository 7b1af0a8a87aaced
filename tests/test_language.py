"""Holds the package to the rules of LANGUAGE.md that can be seen in a file by itself."""

import ast
import builtins
import pathlib
import re
import unittest

PACKAGE = pathlib.Path(__file__).resolve().parent.parent / "lampway"

OWN_NAMES = """len range enumerate zip min max sum abs sorted reversed int str bool list tuple dict set frozenset
isinstance ord repr any all divmod Exception ValueError TypeError KeyError IndexError LookupError ZeroDivisionError
ArithmeticError OverflowError RuntimeError NotImplementedError AttributeError StopIteration""".split()
OWN_METHODS = """append clear copy count endswith extend find get index insert isalnum isalpha isdigit islower isspace
isupper items join keys ljust lower lstrip partition pop remove replace reverse rfind rjust rpartition rsplit rstrip
setdefault split splitlines startswith strip update upper values zfill bit_length add discard""".split()
UNDERSCORED = "__init__ __eq__ __repr__ __str__ __len__ __all__ __version__".split()
NOT_SAID = re.compile(
    r"\b(type|typing|typing_extensions|enum|Enum|IntEnum|StrEnum|Flag|IntFlag|Generic|Protocol|ABC|ABCMeta|namedtuple"
    r"|NamedTuple|TypedDict|TYPE_CHECKING|abstractmethod)\b|dataclass|overload|contextmanager")
NOT_NAMED = """register mro elements open input version_info with_traceback add_note attrgetter builtins gc importlib
methodcaller os sys""".split()

STATEMENTS = (ast.FunctionDef, ast.ClassDef, ast.ImportFrom, ast.Assign, ast.AugAssign, ast.If, ast.While, ast.For,
              ast.Return, ast.Break, ast.Continue, ast.Pass, ast.Raise, ast.Try, ast.Expr)
EXPRESSIONS = (ast.Constant, ast.List, ast.Tuple, ast.Dict, ast.Set, ast.BinOp, ast.UnaryOp, ast.BoolOp, ast.Compare,
               ast.IfExp, ast.Call, ast.Attribute, ast.Subscript, ast.Slice, ast.ListComp, ast.JoinedStr,
               ast.FormattedValue, ast.Name, ast.Lambda)
AT_THE_TOP = (ast.FunctionDef, ast.ClassDef, ast.ImportFrom, ast.Assign)


def is_docstring(node):
    return isinstance(node, ast.Expr) and isinstance(node.value, ast.Constant) and isinstance(node.value.value, str)


def sign_faults(source):
    rows = source.split("\n")
    if len(rows) - 1 > 400:
        yield "L10 a file of more than 400 lines"
    for number, row in enumerate(rows, 1):
        if len(row) > 120:
            yield f"L10 a line of more than 120 signs, line {number}"
        if re.search(r"[^ -~]", row):
            yield f"L14 a sign beyond the blank to ~, line {number}"
        if NOT_SAID.search(row):
            yield f"L17 a word that stands nowhere, line {number}"


def top_faults(tree):
    bound = []
    for place, node in enumerate(tree.body):
        if not isinstance(node, AT_THE_TOP) and not (place == 0 and is_docstring(node)):
            yield f"L3 not for a file's top, line {node.lineno}"
        if isinstance(node, ast.Assign):
            bound.extend([target.id for target in node.targets if isinstance(target, ast.Name)])
        if isinstance(node, (ast.FunctionDef, ast.ClassDef)):
            bound.append(node.name)
        if isinstance(node, ast.ImportFrom):
            bound.extend([alias.asname or alias.name for alias in node.names])
    for name in sorted(set(bound)):
        if bound.count(name) > 1:
            yield f"L15 bound more than once: {name}"


def statement_faults(node):
    if isinstance(node, ast.stmt) and not isinstance(node, STATEMENTS):
        yield "L6 no such statement"
    if isinstance(node, ast.Expr) and not isinstance(node.value, ast.Call) and not is_docstring(node):
        yield "L6 neither a call nor a docstring by itself"
    if isinstance(node, (ast.While, ast.For)) and node.orelse:
        yield "L6 an else behind a loop"
    if isinstance(node, ast.Try) and node.finalbody:
        yield "L6 a finally"
    if isinstance(node, ast.Assign) and len(node.targets) > 1:
        yield "L6 more than one target"
    if isinstance(node, ast.ImportFrom):
        if node.level or not (node.module or "").startswith("lampway."):
            yield "L2 an import from elsewhere"
        if any(alias.name == "*" for alias in node.names):
            yield "L2 an import of all"
    if isinstance(node, ast.ExceptHandler):
        taken = node.type.elts if isinstance(node.type, ast.Tuple) else [node.type]
        if any(not isinstance(each, ast.Name) or each.id in ("Exception", "TypeError") for each in taken):
            yield "L19 taken without a narrow name"


def def_faults(node):
    if isinstance(node, ast.FunctionDef):
        if node.end_lineno - node.lineno + 1 > 40:
            yield "L10 a function of more than 40 lines"
        if node.decorator_list:
            yield "L4 a decorator"
        if node.args.vararg or node.args.kwarg or node.args.kwonlyargs or node.args.posonlyargs:
            yield "L4 not a plain parameter"
    if isinstance(node, ast.ClassDef):
        if node.decorator_list or node.keywords or len(node.bases) > 1:
            yield "L5 not a plain class"
        for each in node.body:
            if not isinstance(each, (ast.FunctionDef, ast.Pass)) and not is_docstring(each):
                yield "L5 a value in a class"


def expression_faults(node):
    if isinstance(node, ast.expr) and not isinstance(node, EXPRESSIONS):
        yield "L7 no such expression"
    if isinstance(node, (ast.Div, ast.MatMult)):
        yield "L7 no such operator"
    if isinstance(node, ast.Constant):
        if isinstance(node.value, (float, complex, bytes)):
            yield "L7 no such value"
        if isinstance(node.value, str) and "%" in node.value:
            yield "L27 a per cent sign in a text"
    if isinstance(node, ast.ListComp) and (len(node.generators) > 1 or len(node.generators[0].ifs) > 1):
        yield "L7 more than one for or if"
    if isinstance(node, ast.FormattedValue):
        if not isinstance(node.value, ast.Name) or node.format_spec or node.conversion not in (-1, ord("r")):
            yield "L7 not a plain name in an f-string"
    if isinstance(node, ast.Compare):
        for operator, right in zip(node.ops, node.comparators):
            if isinstance(operator, (ast.Is, ast.IsNot)) and not isinstance(right, ast.Constant):
                yield "L20 is beside another value"
    if isinstance(node, ast.BinOp) and isinstance(node.op, ast.Pow):
        if isinstance(node.left, ast.Constant) and node.left.value == 2 and not isinstance(node.right, ast.Constant):
            yield "L27 2 to an unwritten power"


def names_bound_by(node):
    if isinstance(node, ast.Name) and isinstance(node.ctx, ast.Store):
        return [node.id]
    if isinstance(node, ast.arg):
        return [node.arg]
    if isinstance(node, (ast.FunctionDef, ast.ClassDef)):
        return [node.name]
    if isinstance(node, ast.Attribute) and isinstance(node.ctx, ast.Store):
        return [node.attr]
    return []


def name_faults(node):
    for name in names_bound_by(node):
        if name.startswith("_") and name not in UNDERSCORED:
            yield f"L12 not a plain name: {name}"
        if hasattr(builtins, name) and isinstance(node, (ast.Name, ast.arg)):
            yield f"L15 called like Python's own: {name}"
    if isinstance(node, ast.Name):
        if node.id in NOT_NAMED or (hasattr(builtins, node.id) and node.id not in OWN_NAMES):
            yield f"L8 not to be used: {node.id}"
    if isinstance(node, ast.Attribute):
        own = any(hasattr(kind, node.attr) for kind in (str, int, list, dict, set, tuple, bytes))
        if own and node.attr not in OWN_METHODS and node.attr not in UNDERSCORED:
            yield f"L25 not to be used: {node.attr}"


def shadow_faults(tree):
    taken = [node.name for node in tree.body if isinstance(node, ast.ClassDef)]
    for node in tree.body:
        if isinstance(node, ast.ImportFrom):
            taken.extend([alias.asname or alias.name for alias in node.names])
    for node in ast.walk(tree):
        called = node.arg if isinstance(node, ast.arg) else None
        if isinstance(node, ast.Name) and isinstance(node.ctx, ast.Store):
            called = node.id
        if called in taken:
            yield f"L15 called like a class or an import: {called}, line {node.lineno}"


def is_call_of(node, names):
    return isinstance(node, ast.Call) and isinstance(node.func, ast.Name) and node.func.id in names


def is_walked_call(node):
    views = isinstance(node, ast.Call) and isinstance(node.func, ast.Attribute)
    if views and node.func.attr in ("items", "keys", "values"):
        return True
    return is_call_of(node, ("zip", "enumerate", "reversed", "range"))


def walked_faults(tree):
    """Each walked call must stand where it is walked at once."""
    good = []
    for node in ast.walk(tree):
        if isinstance(node, (ast.For, ast.comprehension)):
            good.append(node.iter)
        if is_call_of(node, ("list", "tuple", "dict", "sorted", "sum", "any", "all", "enumerate", "zip", "min", "max")):
            good.extend(node.args[:1] if node.func.id != "zip" else node.args)
        if isinstance(node, ast.Call) and isinstance(node.func, ast.Attribute) and node.func.attr == "join":
            good.extend(node.args)
    for node in ast.walk(tree):
        if is_walked_call(node) and not any(node is each for each in good):
            yield f"L23 kept, not walked at once, line {node.lineno}"


def set_faults(tree):
    good = []
    for node in ast.walk(tree):
        if is_call_of(node, ("sorted", "len")):
            good.extend(node.args)
        if isinstance(node, ast.Compare):
            good.extend([node.left] + node.comparators)
    for node in ast.walk(tree):
        made = isinstance(node, (ast.Set, ast.SetComp)) or is_call_of(node, ("set", "frozenset"))
        if made and not any(node is each for each in good):
            yield f"L24 a set that is kept or walked, line {node.lineno}"


def keyword_faults(tree):
    allowed = {"sorted": ("key", "reverse"), "min": ("key", "default"), "max": ("key", "default"), "sum": ("start",),
               "enumerate": ("start",), "zip": ("strict",)}
    for node in ast.walk(tree):
        if isinstance(node, ast.Call) and node.keywords:
            called = node.func.id if isinstance(node.func, ast.Name) else None
            if any(keyword.arg not in allowed.get(called, ()) for keyword in node.keywords):
                yield f"L22 a keyword, line {node.lineno}"


def drawn_files(tree):
    return [node.module for node in tree.body if isinstance(node, ast.ImportFrom)]


def faults(source):
    tree = ast.parse(source)
    found = list(sign_faults(source))
    for looker in (top_faults, shadow_faults, walked_faults, set_faults, keyword_faults):
        found.extend(looker(tree))
    for node in ast.walk(tree):
        for looker in (statement_faults, def_faults, expression_faults, name_faults):
            found.extend([f"{fault}, line {getattr(node, 'lineno', 0)}" for fault in looker(node)])
    return found


class Language(unittest.TestCase):
    def test_only_plain_files(self):
        names = sorted([path.name for path in PACKAGE.iterdir() if path.name != "__pycache__"])
        self.assertIn("__init__.py", names)
        self.assertEqual([name for name in names if not re.fullmatch(r"__init__\.py|[a-z][a-z0-9_]*\.py", name)], [])

    def test_the_package_keeps_to_the_rules(self):
        for path in sorted(PACKAGE.glob("*.py")):
            with self.subTest(path.name):
                self.assertEqual(faults(path.read_bytes().decode("utf-8")), [])

    def test_no_name_is_a_method_and_a_value(self):
        methods = []
        values = []
        for path in sorted(PACKAGE.glob("*.py")):
            for node in ast.walk(ast.parse(path.read_text("utf-8"))):
                if isinstance(node, ast.ClassDef):
                    methods.extend([each.name for each in node.body if isinstance(each, ast.FunctionDef)])
                if isinstance(node, ast.Attribute) and isinstance(node.ctx, ast.Store):
                    values.append(node.attr)
        self.assertEqual(sorted(set(methods) & set(values)), [])

    def test_names_are_drawn_from_the_files_that_define_them(self):
        defined = {}
        for path in sorted(PACKAGE.glob("*.py")):
            tree = ast.parse(path.read_text("utf-8"))
            defined["lampway." + path.stem] = [node.name for node in tree.body if hasattr(node, "name")] + [
                node.targets[0].id for node in tree.body if isinstance(node, ast.Assign)]
        for path in sorted(PACKAGE.glob("*.py")):
            for node in ast.parse(path.read_text("utf-8")).body:
                if isinstance(node, ast.ImportFrom):
                    for alias in node.names:
                        self.assertIn(alias.name, defined[node.module], path.name)

    def test_every_imported_name_is_used(self):
        for path in sorted(PACKAGE.glob("*.py")):
            tree = ast.parse(path.read_text("utf-8"))
            used = [node.id for node in ast.walk(tree) if isinstance(node, ast.Name)]
            for node in tree.body:
                if isinstance(node, ast.ImportFrom):
                    self.assertEqual([alias.name for alias in node.names if alias.name not in used], [], path.name)

    def test_no_two_files_draw_from_one_another(self):
        drawn = {"lampway." + path.stem: drawn_files(ast.parse(path.read_text("utf-8")))
                 for path in PACKAGE.glob("*.py")}
        reached = dict(drawn)
        for step in range(len(drawn)):
            reached = {one: sorted(set(others).union(*[drawn[other] for other in others]))
                       for one, others in reached.items()}
        self.assertEqual([one for one, others in reached.items() if one in others], [])

    def test_a_fault_is_seen(self):
        for rule, source in (
            ("L2", "from json import loads\n"),
            ("L3", "print\n"),
            ("L4", "def a(*b):\n    return b\n"),
            ("L5", "class A:\n    b = 1\n"),
            ("L6", "import lampway.words\n"),
            ("L6", "def a():\n    assert 1\n"),
            ("L7", "A = 1.5\n"),
            ("L7", "def a(b):\n    return b / 2\n"),
            ("L7", "def a(b):\n    return any(c for c in b)\n"),
            ("L7", "def a(b):\n    return f\"{b.c}\"\n"),
            ("L8", "def a():\n    return open(\"b\")\n"),
            ("L10", "A = 1  # " + "b" * 120 + "\n"),
            ("L10", "def a():\n" + "    pass\n" * 40),
            ("L12", "def a():\n    _ = 1\n"),
            ("L14", "A = \"\u00e9\"\n"),
            ("L15", "A = 1\nA = 2\n"),
            ("L15", "def a(hash):\n    return hash\n"),
            ("L15", "from lampway.words import words\ndef a(words):\n    return words\n"),
            ("L17", "# its type\n"),
            ("L19", "def a():\n    try:\n        b()\n    except Exception:\n        pass\n"),
            ("L20", "def a(b, c):\n    return b is c\n"),
            ("L22", "def a(b):\n    return b(c=1)\n"),
            ("L23", "def a(b):\n    c = zip(b, b)\n    return c\n"),
            ("L24", "def a(b):\n    c = set(b)\n    return c\n"),
            ("L25", "def a(b):\n    return b.title()\n"),
            ("L27", "A = \"5 %\"\n"),
            ("L27", "def a(b):\n    return 2 ** b\n"),
        ):
            with self.subTest(rule=rule, source=source):
                self.assertTrue([fault for fault in faults(source) if fault.startswith(rule + " ")])


if __name__ == "__main__":
    unittest.main()
