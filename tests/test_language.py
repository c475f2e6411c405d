"""The package keeps to its part of Python: a look for some of the rules of LANGUAGE.md.

Not looked for: L11, L13. In part alone: L3, L5, L7, L14 to L19, L22 to L28.
"""

import ast
import builtins
import pathlib
import re
import unittest

PACKAGE = pathlib.Path(__file__).resolve().parent.parent / "linewarden"

OWN_NAMES = set(
    "len range enumerate zip min max sum abs sorted reversed int str bool list tuple dict set frozenset "
    "isinstance ord repr any all divmod Exception ValueError TypeError KeyError IndexError LookupError "
    "ZeroDivisionError ArithmeticError OverflowError RuntimeError NotImplementedError AttributeError "
    "StopIteration".split())
OWN_METHODS = set(
    "append clear copy count endswith extend find get index insert isalnum isalpha isdigit islower isspace "
    "isupper items join keys ljust lower lstrip partition pop remove replace reverse rfind rjust rpartition "
    "rsplit rstrip setdefault split splitlines startswith strip update upper values zfill bit_length".split())
OWN_VALUES = set("count index title find get join lower upper split strip copy add".split())
# What Python's own values have as methods and values.
TAKEN = {name for kind in (str, int, list, tuple, dict, set, frozenset, bytes) for name in dir(kind)} | {"args"}
DOUBLED = {"__init__", "__eq__", "__repr__", "__str__", "__len__"}
BARRED_WORDS = re.compile(
    r"\b(type|typing|typing_extensions|enum|Enum|IntEnum|StrEnum|Flag|IntFlag|Generic|Protocol|ABC|ABCMeta|"
    r"namedtuple|NamedTuple|TypedDict|TYPE_CHECKING|abstractmethod)\b|dataclass|overload|contextmanager")
BARRED_NAMES = set(
    "register mro elements open input version_info with_traceback add_note format format_map".split())
BARRED_FILES = re.compile(r"tests?|testing|test_.*|site|conftest|sitecustomize|usercustomize")
NODES = (
    ast.Module, ast.FunctionDef, ast.ClassDef, ast.ImportFrom, ast.alias, ast.arguments, ast.arg, ast.Lambda,
    ast.Assign, ast.AugAssign, ast.If, ast.While, ast.For, ast.Return, ast.Break, ast.Continue, ast.Pass,
    ast.Raise, ast.Try, ast.ExceptHandler, ast.Expr, ast.Constant, ast.List, ast.Tuple, ast.Dict, ast.Set,
    ast.BinOp, ast.UnaryOp, ast.BoolOp, ast.Compare, ast.IfExp, ast.Call, ast.keyword, ast.Attribute,
    ast.Subscript, ast.Slice, ast.ListComp, ast.comprehension, ast.JoinedStr, ast.FormattedValue, ast.Name,
    ast.expr_context, ast.operator, ast.unaryop, ast.boolop, ast.cmpop)
CHANGING = set("append clear extend insert pop remove reverse setdefault update".split())
WALKS = ("zip", "enumerate", "reversed", "range")
WALKS_OF_DICTS = ("items", "keys", "values")
WALKERS = ("list", "tuple", "dict", "sorted", "sum", "any", "all", "enumerate", "zip")
KEYWORDS = {"sorted": {"key", "reverse"}, "min": {"key", "default"}, "max": {"key", "default"}, "sum": {"start"},
            "enumerate": {"start"}, "zip": {"strict"}}
AS_KEYS = ("len", "int", "str", "abs", "sum", "min", "max", "tuple")
TOP_NODES = (ast.ImportFrom, ast.FunctionDef, ast.ClassDef, ast.Assign)


def faults_of_text(source):
    rows = source.split("\n")
    faults = []
    if any(sign != "\n" and not " " <= sign <= "~" for sign in source):
        faults.append("L14 sign")
    if len(rows) > 401:
        faults.append("L10 file")
    for place, row in enumerate(rows, start=1):
        if len(row) > 120:
            faults.append(f"L10 line {place}")
        if BARRED_WORDS.search(row):
            faults.append(f"L17 word in line {place}")
    return faults


def fault_of_name(name):
    if name in BARRED_NAMES:
        return "L17 name " + name
    if not re.fullmatch(r"[A-Za-z][A-Za-z0-9_]*", name):
        return "L12 name " + name
    if name in vars(builtins):
        return "L15 name " + name
    return None


def faults_of_def(node):
    given = node.args
    faults = []
    if given.vararg or given.kwarg or given.kwonlyargs or given.posonlyargs:
        faults.append("L4 parameters")
    if isinstance(node, ast.FunctionDef):
        if node.decorator_list:
            faults.append("L4 decorator")
        if node.end_lineno - node.lineno + 1 > 40:
            faults.append("L10 function " + node.name)
        if node.name not in DOUBLED and fault_of_name(node.name):
            faults.append(fault_of_name(node.name))
    return faults


def faults_of_class(node):
    faults = []
    if node.decorator_list or node.keywords or len(node.bases) > 1:
        faults.append("L5 class " + node.name)
    for part in node.body:
        if not isinstance(part, (ast.FunctionDef, ast.Pass)):
            faults.append("L5 body of " + node.name)
    return faults


def faults_of_import(node):
    module = node.module or ""
    if module == "__future__":
        return []
    if node.level or not module.startswith("linewarden.") or module.endswith("__main__"):
        return ["L2 import of " + module]
    return ["L2 import of all"] if any(name.name == "*" for name in node.names) else []


def faults_of_compare(node):
    faults = []
    sides = [node.left] + node.comparators
    for place, sign in enumerate(node.ops):
        if isinstance(sign, (ast.Is, ast.IsNot)):
            beside = [side.value for side in sides[place:place + 2] if isinstance(side, ast.Constant)]
            if not any(value is None or isinstance(value, bool) for value in beside):
                faults.append("L20 is")
    return faults


def faults_of_small(node):
    """Of names, values, loops and calls."""
    if isinstance(node, ast.Name) and isinstance(node.ctx, ast.Load):
        barred = node.id in vars(builtins) and node.id not in OWN_NAMES
        return ["L8 name " + node.id] if barred else []
    if isinstance(node, ast.Name) or isinstance(node, ast.arg):
        fault = fault_of_name(node.id if isinstance(node, ast.Name) else node.arg)
        return [fault] if fault else []
    if isinstance(node, ast.Attribute) and (node.attr in BARRED_NAMES or node.attr.startswith("_")):
        return [] if node.attr == "__init__" else ["L17 attribute " + node.attr]
    if isinstance(node, ast.Constant) and not isinstance(node.value, (int, str, bool, type(None))):
        return ["L7 value"]
    if isinstance(node, ast.Constant) and isinstance(node.value, str) and "%" in node.value:
        return ["L27 sign"]
    if isinstance(node, ast.Expr) and not isinstance(node.value, (ast.Call, ast.Constant)):
        return ["L6 value by itself"]
    if isinstance(node, (ast.Div, ast.MatMult)):
        return ["L7 operator"]
    if isinstance(node, (ast.For, ast.While)) and node.orelse:
        return ["L6 else behind a loop"]
    if isinstance(node, ast.Try) and node.finalbody:
        return ["L6 finally"]
    if isinstance(node, ast.Assign) and len(node.targets) > 1:
        return ["L6 targets"]
    if isinstance(node, ast.ListComp) and (len(node.generators) > 1 or len(node.generators[0].ifs) > 1):
        return ["L7 comprehension"]
    return []


def faults_of_node(node):
    if not isinstance(node, NODES):
        return ["L6 or L7 " + node.__class__.__name__]
    if isinstance(node, (ast.FunctionDef, ast.Lambda)):
        return faults_of_def(node)
    if isinstance(node, ast.ClassDef):
        return faults_of_class(node)
    if isinstance(node, ast.ImportFrom):
        return faults_of_import(node)
    if isinstance(node, ast.Compare):
        return faults_of_compare(node)
    return faults_of_small(node)


def bound_at_top(tree):
    names = []
    for node in tree.body:
        if isinstance(node, (ast.FunctionDef, ast.ClassDef)):
            names.append(node.name)
        elif isinstance(node, ast.ImportFrom):
            names.extend(name.asname or name.name for name in node.names)
        elif isinstance(node, ast.Assign):
            names.extend(part.id for part in ast.walk(node.targets[0]) if isinstance(part, ast.Name))
    return names


def faults_of_top(tree):
    faults = []
    body = tree.body[1:] if ast.get_docstring(tree) is not None else tree.body
    for node in body:
        if not isinstance(node, TOP_NODES):
            faults.append("L3 top")
    names = bound_at_top(tree)
    faults.extend("L15 twice " + name for name in sorted(set(names)) if names.count(name) > 1)
    inner = [part for node in tree.body for part in ast.walk(node) if part is not node]
    if any(isinstance(part, (ast.ImportFrom, ast.ClassDef)) for part in inner):
        faults.append("L2 or L15 within")
    return faults


def faults_of(source):
    tree = ast.parse(source)
    faults = faults_of_text(source) + faults_of_top(tree)
    for node in ast.walk(tree):
        faults.extend(faults_of_node(node))
    return faults


def name_of_call(node):
    """The name that is called, if it is a plain one."""
    return node.func.id if isinstance(node, ast.Call) and isinstance(node.func, ast.Name) else None


def method_of_call(node):
    return node.func.attr if isinstance(node, ast.Call) and isinstance(node.func, ast.Attribute) else None


def is_walk(node):
    return name_of_call(node) in WALKS or (method_of_call(node) in WALKS_OF_DICTS and not node.args)


def places_of_walks(node):
    """The expressions straight in this node that are walked at once."""
    if isinstance(node, (ast.For, ast.comprehension)):
        return [node.iter]
    if name_of_call(node) in WALKERS or (name_of_call(node) in ("min", "max") and len(node.args) == 1):
        return node.args[:1]
    return node.args if method_of_call(node) == "join" else []


def walks_that_are_kept(source):
    nodes = list(ast.walk(ast.parse(source)))
    places = [place for node in nodes for place in places_of_walks(node)]
    return [ast.unparse(node) for node in nodes if is_walk(node) and node not in places]


def walked_in(expression):
    """What a loop over this expression walks, as texts."""
    if name_of_call(expression) in ("enumerate", "zip", "reversed"):
        return [text for part in expression.args for text in walked_in(part)]
    if method_of_call(expression) in WALKS_OF_DICTS:
        return [ast.unparse(expression.func.value)]
    return [ast.unparse(expression)]


def changed_by(node):
    if method_of_call(node) in CHANGING:
        return [ast.unparse(node.func.value)]
    targets = node.targets if isinstance(node, ast.Assign) else []
    changed = [ast.unparse(target.value) for target in targets if isinstance(target, ast.Subscript)]
    return changed + ([ast.unparse(node.target)] if isinstance(node, ast.AugAssign) else [])


def walked_and_changed(source):
    faults = []
    for loop in [node for node in ast.walk(ast.parse(source)) if isinstance(node, ast.For)]:
        changed = [text for part in loop.body for node in ast.walk(part) for text in changed_by(node)]
        faults.extend(text for text in walked_in(loop.iter) if text in changed)
    return faults


def is_set(node):
    if isinstance(node, ast.BinOp):
        return is_set(node.left) or is_set(node.right)
    return isinstance(node, ast.Set) or name_of_call(node) in ("set", "frozenset")


def sets_out_of_place(source):
    nodes = list(ast.walk(ast.parse(source)))
    places = [part for node in nodes if name_of_call(node) in ("sorted", "len") for part in node.args]
    places += [part for node in nodes if isinstance(node, ast.Compare) for part in node.comparators + [node.left]]
    places += [part for place in places for part in ast.walk(place) if isinstance(place, ast.BinOp)]
    return [ast.unparse(node) for node in nodes if is_set(node) and node not in places]


def calls_of_own_names(source):
    """Faults of L22: keywords, isinstance, and Python's own functions where they are not called."""
    nodes = list(ast.walk(ast.parse(source)))
    calls = [node for node in nodes if name_of_call(node) in OWN_NAMES]
    faults = [ast.unparse(node) for node in calls
              if {part.arg for part in node.keywords} - KEYWORDS.get(node.func.id, set())]
    faults += [ast.unparse(node) for node in calls if node.func.id == "isinstance" and len(node.args) != 2]
    places = [part for node in nodes for place in places_of_classes(node) for part in ast.walk(place)]
    places += [node.value for node in nodes if isinstance(node, ast.keyword) and node.arg == "key"
               and isinstance(node.value, ast.Name) and node.value.id in AS_KEYS]
    names = [node for node in nodes if isinstance(node, ast.Name) and node.id in OWN_NAMES]
    return faults + [node.id for node in names if node not in places]


def errors_out_of_place(source):
    faults = []
    for node in ast.walk(ast.parse(source)):
        if isinstance(node, ast.Raise) and not isinstance(node.exc, ast.Call):
            faults.append("raise")
        if isinstance(node, ast.ExceptHandler):
            taken = node.type.elts if isinstance(node.type, ast.Tuple) else [node.type]
            names = [part.id if isinstance(part, ast.Name) else "" for part in taken]
            faults.extend("except " + name for name in names if name in ("", "Exception", "TypeError"))
    return faults


def annotations_of(source):
    nodes = list(ast.walk(ast.parse(source)))
    given = [node.annotation for node in nodes if isinstance(node, ast.arg)]
    given += [node.returns for node in nodes if isinstance(node, ast.FunctionDef)]
    return [ast.unparse(part) for part in given if part is not None]


def modules():
    return {path.stem: path.read_text(encoding="utf-8") for path in sorted(PACKAGE.glob("*.py"))}


def methods_of(sources):
    trees = [ast.parse(source) for source in sources]
    classes = [node for tree in trees for node in tree.body if isinstance(node, ast.ClassDef)]
    return {part.name for node in classes for part in node.body if isinstance(part, ast.FunctionDef)}


def values_of(sources):
    """The names of all values that objects are given."""
    nodes = [node for source in sources for node in ast.walk(ast.parse(source)) if isinstance(node, ast.Attribute)]
    return {node.attr for node in nodes if isinstance(node.ctx, ast.Store)}


def classes_of(sources):
    nodes = [node for source in sources for node in ast.parse(source).body]
    return {node.name for node in nodes if isinstance(node, ast.ClassDef)}


def locals_of(source):
    """The names of all parameters and locals within the defs of a file."""
    defs = [node for node in ast.walk(ast.parse(source)) if isinstance(node, (ast.FunctionDef, ast.Lambda))]
    parts = [part for node in defs for part in ast.walk(node)]
    stored = {part.id for part in parts if isinstance(part, ast.Name) and isinstance(part.ctx, ast.Store)}
    caught = {part.name for part in parts if isinstance(part, ast.ExceptHandler) and part.name}
    return stored | caught | {part.arg for part in parts if isinstance(part, ast.arg)}


def classes_and_imports_of(source):
    tree = ast.parse(source)
    imports = [node for node in tree.body if isinstance(node, ast.ImportFrom)]
    return classes_of([source]) | {name.asname or name.name for node in imports for name in node.names}


def places_of_classes(node):
    """The expressions straight in this node where a class may stand."""
    if isinstance(node, ast.Call):
        own = isinstance(node.func, ast.Name) and node.func.id == "isinstance"
        return [node.func] + (node.args[1:] if own else [])
    if isinstance(node, ast.ClassDef):
        return node.bases
    if isinstance(node, ast.Raise) and node.exc is not None:
        return [node.exc]
    if isinstance(node, ast.ExceptHandler) and node.type is not None:
        return [node.type]
    if isinstance(node, ast.Attribute) and node.attr == "__init__":
        return [node.value]
    return []


def classes_out_of_place(source, classes):
    nodes = list(ast.walk(ast.parse(source)))
    places = [place for node in nodes for place in places_of_classes(node)]
    places += [part for place in places if isinstance(place, ast.Tuple) for part in place.elts]
    return [node.id for node in nodes if isinstance(node, ast.Name) and node.id in classes and node not in places]


def inits_that_give_back(source):
    defs = [node for node in ast.walk(ast.parse(source)) if isinstance(node, ast.FunctionDef)]
    inits = [node for node in defs if node.name == "__init__"]
    parts = [part for node in inits for part in ast.walk(node)]
    return [part for part in parts if isinstance(part, ast.Return) and part.value is not None]


def draws_of(source):
    drawn = [node.module for node in ast.parse(source).body if isinstance(node, ast.ImportFrom)]
    return [name.partition(".")[2] for name in drawn if name.startswith("linewarden.")]


def drawn_in_all(name, draws):
    found, open_names = set(), [name]
    while open_names:
        for drawn in draws.get(open_names.pop(), []):
            if drawn not in found:
                found.add(drawn)
                open_names.append(drawn)
    return found


class TestPackage(unittest.TestCase):
    def test_files(self):
        for path in PACKAGE.iterdir():
            if path.name == "__pycache__":
                continue
            with self.subTest(path=path.name):
                self.assertTrue(path.is_file())
                self.assertRegex(path.name, r"\A(__init__|__main__|[a-z][a-z0-9_]*)\.py\Z")
                self.assertIsNone(BARRED_FILES.fullmatch(path.stem))
                self.assertNotIn(path.stem, vars(builtins))
        self.assertIn("__init__", modules())

    def test_each_file(self):
        for name, source in modules().items():
            with self.subTest(name=name):
                self.assertEqual(faults_of(source), [])

    def test_methods_that_are_called(self):
        known = OWN_METHODS | methods_of(modules().values())
        for name, source in modules().items():
            for node in ast.walk(ast.parse(source)):
                if isinstance(node, ast.Call) and isinstance(node.func, ast.Attribute):
                    with self.subTest(name=name, line=node.lineno):
                        self.assertIn(node.func.attr, known)

    def test_names_of_methods_and_values(self):
        methods, values = methods_of(modules().values()), values_of(modules().values())
        self.assertEqual(methods & values, set())
        self.assertEqual(methods & TAKEN - OWN_METHODS - DOUBLED - {"add", "discard"}, set())
        self.assertEqual(values & TAKEN - OWN_VALUES, set())

    def test_no_local_is_called_like_a_class_or_an_import(self):
        for name, source in modules().items():
            with self.subTest(name=name):
                self.assertEqual(locals_of(source) & classes_and_imports_of(source), set())

    def test_classes_stand_where_they_may(self):
        classes = classes_of(modules().values())
        for name, source in modules().items():
            with self.subTest(name=name):
                self.assertEqual(classes_out_of_place(source, classes), [])
                self.assertEqual(inits_that_give_back(source), [])

    def test_walks_sets_own_names_errors_and_annotations(self):
        for name, source in modules().items():
            with self.subTest(name=name):
                self.assertEqual((walks_that_are_kept(source), walked_and_changed(source)), ([], []))
                self.assertEqual((sets_out_of_place(source), calls_of_own_names(source)), ([], []))
                self.assertEqual((errors_out_of_place(source), annotations_of(source)), ([], []))

    def test_no_two_files_draw_from_one_another(self):
        draws = {name: draws_of(source) for name, source in modules().items()}
        self.assertEqual(draws["__init__"], [])
        for name in draws:
            with self.subTest(name=name):
                self.assertNotIn(name, drawn_in_all(name, draws))


class TestTheLook(unittest.TestCase):
    def test_what_is_outside_is_seen(self):
        for source in (
                "import os\n", "from os import path\n", "from .errors import NoWord\n",
                "from linewarden.errors import *\n", "def f(x):\n    x + 1\n",
                "def f(*a):\n    return a\n", "def f():\n    return 1 / 2\n", "def f():\n    return 1.5\n",
                "def f(x):\n    return x is f\n", "def f(x):\n    return getattr(x, 'y')\n", "x = 1\nx = 2\n",
                "class C:\n    x = 1\n", "def f():\n    yield 1\n", "def f(x):\n    del x\n", "# a type\n",
                "def f(hash):\n    return hash\n", "def f():\n    return {1: 2 for x in ()}\n", "print(1)\n",
                "# \u00e4\n", "def f():\n\treturn 1\n", "x = " + "1" * 120 + "\n", "def f():\n" + "    f()\n" * 40):
            with self.subTest(source=source):
                self.assertNotEqual(faults_of(source), [])

    def test_classes_methods_values_and_locals_are_seen(self):
        source = (
            "from linewarden.errors import NoWord\n\n\nclass Box:\n    def __init__(self, size):\n"
            "        self.size = size\n        return None\n\n\ndef told(NoWord):\n    boxes = [Box, Box(1)]\n"
            "    return isinstance(boxes, Box)\n")
        self.assertEqual((methods_of([source]), values_of([source])), ({"__init__"}, {"size"}))
        self.assertEqual(locals_of(source), {"self", "size", "NoWord", "boxes"})
        self.assertEqual(classes_and_imports_of(source), {"Box", "NoWord"})
        self.assertEqual(classes_out_of_place(source, {"Box"}), ["Box"])
        self.assertEqual(len(inits_that_give_back(source)), 1)

    def test_walks_are_seen(self):
        source = (
            "def f(xs, d):\n    ys = zip(xs, xs)\n    for y in d.items():\n        d.pop(y)\n"
            "    for k, x in enumerate(xs):\n        xs[k] = x\n    return (ys, sorted(d.keys()), d.values())\n")
        self.assertEqual(walks_that_are_kept(source), ["zip(xs, xs)", "d.values()"])
        self.assertEqual(walked_and_changed(source), ["d", "xs"])

    def test_sets_are_seen(self):
        source = (
            "def f(xs):\n    s = set(xs)\n    for x in {1, 2}:\n        s = x\n"
            "    return (len(set(xs) - set(s)), sorted(set(xs)), 1 in set(xs), set(xs) == set(s))\n")
        self.assertEqual(sets_out_of_place(source), ["set(xs)", "{1, 2}"])

    def test_own_names_errors_and_annotations_are_seen(self):
        source = (
            "def f(xs: int):\n    g = len\n    try:\n        g(xs)\n    except (KeyError, TypeError):\n"
            "        raise\n    ys = (sorted(xs, key=len), sorted(xs, key=ord))\n"
            "    return (ys, int(xs, base=2), isinstance(xs, int))\n")
        self.assertEqual(sorted(calls_of_own_names(source)), ["int", "int(xs, base=2)", "len", "ord"])
        self.assertEqual(errors_out_of_place(source), ["except TypeError", "raise"])
        self.assertEqual(annotations_of(source), ["int"])

    def test_what_is_inside_is_let_through(self):
        source = (
            '"""A file."""\n\nfrom linewarden.errors import NoWord\n\nWORDS = ("a", "b")\n\n\n'
            "class Box:\n    def __init__(self, size=None):\n        self.size = size\n\n\n"
            "def told(box):\n    if box.size is None:\n        raise NoWord('none')\n"
            "    return [word for word in WORDS if len(word) == box.size]\n")
        self.assertEqual(faults_of(source), [])


if __name__ == "__main__":
    unittest.main()
