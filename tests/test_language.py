"""Holds the package's files to those rows of LANGUAGE.md that can be read off the code."""

import ast
import builtins
import pathlib
import re
import unittest

PACKAGE = pathlib.Path(__file__).resolve().parent.parent / "chairclans"

NODES = (
    ast.Module, ast.ImportFrom, ast.alias, ast.FunctionDef, ast.arguments, ast.arg, ast.ClassDef, ast.Lambda,
    ast.Assign, ast.AugAssign, ast.If, ast.While, ast.For, ast.Return, ast.Break, ast.Continue, ast.Pass, ast.Raise,
    ast.Try, ast.ExceptHandler, ast.Expr, ast.Call, ast.keyword, ast.Constant, ast.List, ast.Tuple, ast.Dict,
    ast.BinOp, ast.UnaryOp, ast.BoolOp, ast.Compare, ast.IfExp, ast.Attribute, ast.Subscript, ast.Slice, ast.Name,
    ast.ListComp, ast.comprehension, ast.JoinedStr, ast.FormattedValue, ast.expr_context, ast.boolop, ast.unaryop,
    ast.operator, ast.cmpop,
)
OWN_NAMES = """len range enumerate zip min max sum abs sorted reversed int str bool list tuple dict set frozenset isinstance
    ord repr any all divmod Exception ValueError TypeError KeyError IndexError LookupError ZeroDivisionError
    ArithmeticError OverflowError RuntimeError NotImplementedError AttributeError StopIteration""".split()
METHODS = """append clear copy count endswith extend find get index insert isalnum isalpha isdigit islower isspace isupper
    items join keys ljust lower lstrip partition pop remove replace reverse rfind rjust rpartition rsplit rstrip
    setdefault split splitlines startswith strip update upper values zfill bit_length""".split()
UNUSED = "register mro elements open input version_info with_traceback add_note format format_map".split()
NOT_AS_NAMES = """attrgetter breakpoint builtins compile copyright credits delattr dir eval exec exit gc getattr globals
    hasattr help id importlib license locals methodcaller os quit setattr super type vars sys""".split()
WORDS = """type typing typing_extensions enum Enum IntEnum StrEnum Flag IntFlag Generic Protocol ABC ABCMeta namedtuple
    NamedTuple TypedDict TYPE_CHECKING abstractmethod""".split()
UNDERSCORED = "__init__ __eq__ __repr__ __str__ __len__ __all__ __version__".split()
WALKED_AT_ONCE = "zip enumerate reversed range".split()
CHANGING = "append clear extend insert pop remove reverse setdefault update".split()
LET_AS_METHODS = METHODS + ["add", "discard"]
LET_AS_VALUES = "count index title find get join lower upper split strip copy add".split()


def faults_of_text(text):
    rows = text.split("\n")
    faults = ["L10 a long row" for row in rows if len(row) > 120]
    if len(rows) > 401:
        faults.append("L10 a long file")
    if re.search(r"[^ -~\n]", text):
        faults.append("L14 a sign")
    faults += [f"L17 {word}" for word in WORDS if re.search(rf"\b{word}\b", text)]
    faults += [f"L17 {word}" for word in ("dataclass", "overload", "contextmanager") if word in text]
    return faults


def is_plain(node):
    if isinstance(node, (ast.List, ast.Tuple)):
        return all(is_plain(part) for part in node.elts)
    if isinstance(node, ast.Dict):
        return all(is_plain(part) for part in node.keys + node.values)
    if isinstance(node, ast.UnaryOp):
        return isinstance(node.op, ast.USub) and is_plain(node.operand)
    return isinstance(node, (ast.Constant, ast.Name))


def faults_of_top(tree):
    faults = []
    bound = []
    for place, node in enumerate(tree.body):
        if isinstance(node, ast.ImportFrom):
            bound += [alias.asname or alias.name for alias in node.names]
        elif isinstance(node, (ast.FunctionDef, ast.ClassDef)):
            bound.append(node.name)
        elif isinstance(node, ast.Assign) and isinstance(node.targets[0], ast.Name) and is_plain(node.value):
            bound.append(node.targets[0].id)
        elif place > 0 or ast.get_docstring(tree) is None:
            faults.append("L3 the top")
    if len(bound) != len(set(bound)):
        faults.append("L15 a name bound twice")
    return faults


def faults_of_def(node, top_names):
    faults = []
    plain = node.args
    names = [arg.arg for arg in plain.args]
    names += [part.id for part in ast.walk(node) if isinstance(part, ast.Name) and isinstance(part.ctx, ast.Store)]
    if plain.vararg or plain.kwarg or plain.kwonlyargs or plain.posonlyargs or node.decorator_list:
        faults.append("L4 parameters")
    if node.end_lineno - node.lineno + 1 > 40:
        faults.append("L10 a long function")
    faults += [f"L15 {name}" for name in names if name in top_names or hasattr(builtins, name)]
    return faults


def faults_of_class(node):
    faults = []
    if len(node.bases) > 1 or node.keywords or node.decorator_list:
        faults.append("L5 a class")
    if any(not isinstance(part, (ast.FunctionDef, ast.Pass)) for part in node.body):
        faults.append("L5 a class body")
    return faults


def faults_of_name(name):
    faults = []
    if name in UNUSED:
        faults.append(f"L17 {name}")
    if name not in UNDERSCORED and not re.fullmatch(r"[A-Za-z][A-Za-z0-9_]*", name):
        faults.append(f"L12 {name}")
    return faults


def faults_of_compare(node):
    sides = [node.left] + node.comparators
    beside = any(isinstance(side, ast.Constant) and side.value in (None, True, False) for side in sides)
    if any(isinstance(op, (ast.Is, ast.IsNot)) for op in node.ops) and not beside:
        return ["L20 is"]
    return []


def faults_of_node(node, own_methods):
    faults = [] if isinstance(node, NODES) else [f"L6 or L7 {node.__class__.__name__}"]
    if isinstance(node, ast.Name):
        faults += faults_of_name(node.id)
        if node.id in NOT_AS_NAMES or (hasattr(builtins, node.id) and node.id not in OWN_NAMES):
            faults.append(f"L8 {node.id}")
    if isinstance(node, ast.arg):
        faults += faults_of_name(node.arg) + (["L21 annotation"] if node.annotation else [])
    if isinstance(node, (ast.FunctionDef, ast.ClassDef)):
        faults += faults_of_name(node.name)
    if isinstance(node, ast.Attribute):
        faults += faults_of_name(node.attr)
    if isinstance(node, ast.Call) and isinstance(node.func, ast.Attribute):
        if node.func.attr not in METHODS and node.func.attr not in own_methods:
            faults.append(f"L25 {node.func.attr}")
    if isinstance(node, ast.Constant):
        if not isinstance(node.value, (int, str, type(None))) or (isinstance(node.value, str) and "%" in node.value):
            faults.append("L7 or L27 a value")
    if isinstance(node, ast.BinOp) and isinstance(node.op, (ast.Div, ast.MatMult)):
        faults.append("L7 /")
    if isinstance(node, ast.BinOp) and isinstance(node.op, ast.Pow):
        if not isinstance(node.right, ast.Constant) or not 0 <= node.right.value <= 64:
            faults.append("L27 **")
    if isinstance(node, ast.Assign) and (len(node.targets) != 1 or not isinstance(node.targets[0], (
            ast.Name, ast.Attribute, ast.Subscript))):
        faults.append("L6 one target")
    if isinstance(node, (ast.For, ast.While)) and node.orelse:
        faults.append("L6 else behind a loop")
    if isinstance(node, ast.Try) and node.finalbody:
        faults.append("L6 finally")
    if isinstance(node, ast.ListComp) and (len(node.generators) != 1 or len(node.generators[0].ifs) > 1):
        faults.append("L7 a comprehension")
    if isinstance(node, ast.Assign) and isinstance(node.value, ast.Call) and isinstance(node.value.func, ast.Name):
        if node.value.func.id in WALKED_AT_ONCE + ["set", "frozenset"]:
            faults.append("L23 or L24 kept")
    if isinstance(node, ast.ExceptHandler):
        if node.type is None or (isinstance(node.type, ast.Name) and node.type.id in ("Exception", "TypeError")):
            faults.append("L19 except")
    if isinstance(node, ast.Compare):
        faults += faults_of_compare(node)
    return faults


def walked_by(node):
    """What a loop walks, itself or through `enumerate`, `zip`, `reversed` or a method."""
    if isinstance(node, ast.Call) and isinstance(node.func, ast.Name) and node.func.id in WALKED_AT_ONCE:
        return [walked for part in node.args for walked in walked_by(part)]
    if isinstance(node, ast.Call) and isinstance(node.func, ast.Attribute):
        return [ast.unparse(node.func.value)]
    return [ast.unparse(node)] if isinstance(node, (ast.Name, ast.Attribute, ast.Subscript)) else []


def faults_of_loop(loop):
    walked = walked_by(loop.iter)
    faults = []
    for statement in loop.body:
        for node in ast.walk(statement):
            if isinstance(node, ast.Call) and isinstance(node.func, ast.Attribute) and node.func.attr in CHANGING:
                if ast.unparse(node.func.value) in walked:
                    faults.append("L23 changed while walked")
            if isinstance(node, ast.Subscript) and isinstance(node.ctx, ast.Store) and ast.unparse(node.value) in walked:
                faults.append("L23 changed while walked")
    return faults


def top_holders(tree):
    return [node.targets[0].id for node in tree.body
            if isinstance(node, ast.Assign) and isinstance(node.value, (ast.List, ast.Dict))]


def faults_of_holders(tree):
    """Lists and dicts of the top: nothing of their kind within them, and they are read by an index or `in` alone."""
    holders = top_holders(tree)
    faults, let = [], []
    for node in ast.walk(tree):
        if isinstance(node, ast.Subscript) and isinstance(node.ctx, ast.Load):
            let.append(node.value)
        if isinstance(node, ast.Compare):
            let += node.comparators
    for node in tree.body:
        if isinstance(node, ast.Assign):
            for part in list(ast.walk(node.value))[1:]:
                if isinstance(part, (ast.List, ast.Dict)):
                    faults.append("L15 a list within a list")
    for node in ast.walk(tree):
        if isinstance(node, ast.Name) and isinstance(node.ctx, ast.Load) and node.id in holders and node not in let:
            faults.append(f"L15 {node.id}")
    return faults


def docstrings(tree):
    return [tree.body[0]] if tree.body and ast.get_docstring(tree) is not None else []


def faults_of(text):
    """What a file of the package has against the rows, taken by itself."""
    faults = faults_of_text(text)
    tree = ast.parse(text)
    top_names = []
    for node in tree.body:
        if isinstance(node, ast.ImportFrom):
            top_names += [alias.name for alias in node.names]
            if node.level or not (node.module or "").startswith("chairclans."):
                faults.append("L2 an import")
            if any(alias.name == "*" or alias.asname for alias in node.names):
                faults.append("L2 an import's name")
        if isinstance(node, ast.ClassDef):
            top_names.append(node.name)
            faults += faults_of_class(node)
    own_methods = [part.name for node in tree.body if isinstance(node, ast.ClassDef) for part in node.body
                   if isinstance(part, ast.FunctionDef)]
    faults += faults_of_top(tree) + faults_of_holders(tree)
    for node in ast.walk(tree):
        faults += faults_of_node(node, own_methods)
        if isinstance(node, ast.For):
            faults += faults_of_loop(node)
        if isinstance(node, ast.FunctionDef):
            faults += faults_of_def(node, top_names)
        if isinstance(node, ast.Expr) and not isinstance(node.value, ast.Call) and node not in docstrings(tree):
            faults.append("L6 a statement")
        if isinstance(node, ast.ImportFrom) and node not in tree.body:
            faults.append("L2 an import below the top")
    return faults


def drawn_from(name):
    tree = ast.parse((PACKAGE / f"{name}.py").read_text("utf-8"))
    return {node.module.split(".")[1]: [alias.name for alias in node.names]
            for node in tree.body if isinstance(node, ast.ImportFrom)}


def defined_in(name):
    tree = ast.parse((PACKAGE / f"{name}.py").read_text("utf-8"))
    values = [node.targets[0].id for node in tree.body if isinstance(node, ast.Assign)]
    return values + [node.name for node in tree.body if isinstance(node, (ast.FunctionDef, ast.ClassDef))]


def files():
    return sorted(path for path in PACKAGE.rglob("*") if path.name != "__pycache__" and path.suffix != ".pyc")


def of_classes():
    """The names of all methods and of all values of objects in the package."""
    methods, values = set(), set()
    for path in files():
        for node in ast.walk(ast.parse(path.read_text("utf-8"))):
            if isinstance(node, ast.ClassDef):
                methods.update(part.name for part in node.body if isinstance(part, ast.FunctionDef))
            if isinstance(node, ast.Attribute) and isinstance(node.ctx, ast.Store):
                values.add(node.attr)
    return methods, values


class Language(unittest.TestCase):
    def test_the_files(self):
        self.assertIn("__init__.py", [path.name for path in files()])
        for path in files():
            self.assertTrue(path.is_file())
            self.assertRegex(path.name, r"^(__init__|__main__|[a-z][a-z0-9_]*)\.py$")
            self.assertNotIn(path.stem, dir(builtins) + WORDS + ["test", "tests", "testing", "site", "conftest"])

    def test_each_file(self):
        for path in files():
            with self.subTest(path.name):
                self.assertEqual(faults_of(path.read_text("utf-8")), [])

    def test_imports_come_from_where_a_name_is_defined(self):
        for path in files():
            for source, names in drawn_from(path.stem).items():
                for name in names:
                    self.assertIn(name, defined_in(source), path.name)

    def test_the_names_of_methods_and_values(self):
        methods, values = of_classes()
        python = {name for kind in (str, int, list, tuple, dict, set, frozenset, bytes) for name in dir(kind)}
        self.assertIn("say", methods)
        self.assertEqual(methods & values, set())
        self.assertEqual(values & (python - set(LET_AS_VALUES)), set())
        self.assertEqual(methods & (python - set(LET_AS_METHODS) - set(UNDERSCORED)), set())

    def test_no_two_files_draw_from_one_another(self):
        for path in files():
            reached, ahead = [], list(drawn_from(path.stem))
            while ahead:
                source = ahead.pop()
                if source not in reached:
                    reached.append(source)
                    ahead += list(drawn_from(source))
            self.assertNotIn(path.stem, reached)


class TheReadingItself(unittest.TestCase):
    def test_wrong_code_is_found(self):
        inside = "def f(xs):\n    "
        for text in ("import sys\n", "from chairclans import errors\n", "from .errors import NoRow\n", "x = f(1)\n",
                     "X = 1\nX = 2\n", "def f(*xs):\n    return xs\n", "class A:\n    x = 1\n", "x = 0.5\n",
                     inside + "return xs / 2\n", inside + "return {1, 2}\n", inside + "return xs.sort()\n",
                     inside + "a, b = xs\n", inside + "a = b = xs\n", inside + "return 2 ** xs\n",
                     inside + "return xs is f\n", inside + "global y\n", inside + "return (x for x in xs)\n",
                     inside + "return [x for x in xs for y in x]\n", inside + "return map(f, xs)\n",
                     inside + "id = 1\n", inside + "_x = 1\n", inside + "k = range(3)\n", inside + "'what'\n",
                     inside + "return chr(xs)\n", inside + "return '%'\n", "# a type\n", "# \u00e9\n", "#" * 121 + "\n",
                     "def f(x):\n" + "    x = 1\n" * 40, "x = 1\n" * 401, inside + "del xs\n",
                     inside + "while xs:\n        pass\n    else:\n        pass\n",
                     inside + "for x in xs:\n        xs.append(x)\n", inside + "for x in enumerate(xs):\n        xs[0] = x\n",
                     "X = {1: [2]}\n", "X = [1]\n\n\ndef f(y):\n    return X\n", "X = {}\n\n\ndef f(y):\n    X[y] = 1\n",
                     inside + "try:\n        pass\n    except Exception:\n        pass\n"):
            with self.subTest(text[:60]):
                self.assertNotEqual(faults_of(text), [])

    def test_right_code_is_let_be(self):
        self.assertEqual(faults_of('"""What."""\n\nX = (1, "a")\n\n\ndef f(xs):\n    return [x + 1 for x in xs]\n'), [])
