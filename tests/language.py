"""Finds code outside the part of Python that the package keeps to, as far as a plain look at a file can tell."""

import ast
import builtins
import re

OWN_NAMES = set((
    "len range enumerate zip min max sum abs sorted reversed int str bool list tuple dict set frozenset isinstance "
    "ord repr any all divmod Exception ValueError TypeError KeyError IndexError LookupError ZeroDivisionError "
    "ArithmeticError OverflowError RuntimeError NotImplementedError AttributeError StopIteration object"
).split())
OWN_METHODS = set((
    "append clear copy count endswith extend find get index insert isalnum isalpha isdigit islower isspace isupper "
    "items join keys ljust lower lstrip partition pop remove replace reverse rfind rjust rpartition rsplit rstrip "
    "setdefault split splitlines startswith strip update upper values zfill bit_length"
).split())
VALUES_THAT_MAY_BE = set("count index title find get join lower upper split strip copy add".split())
PYTHONS_ATTRIBUTES = set(
    name for kind in (str, int, list, tuple, dict, set, frozenset, bytes) for name in dir(kind)
) | set("args format mro encode".split())
NEVER_NAMES = set((
    "register mro elements open input version_info with_traceback add_note attrgetter breakpoint builtins compile "
    "copyright credits delattr dir eval exec exit gc getattr globals hasattr help id importlib license locals "
    "methodcaller os quit setattr super type vars sys"
).split())
NEVER_WORDS = re.compile(
    r"\b(type|typing|typing_extensions|enum|Enum|IntEnum|StrEnum|Flag|IntFlag|Generic|Protocol|ABC|ABCMeta|"
    r"namedtuple|NamedTuple|TypedDict|TYPE_CHECKING|abstractmethod)\b|dataclass|overload|contextmanager"
)
DUNDER_METHODS = ("__init__", "__eq__", "__repr__", "__str__", "__len__")
TO_BE_WALKED = ("zip", "enumerate", "reversed", "range")
WALKERS = ("list", "tuple", "dict", "sorted", "sum", "any", "all", "enumerate", "zip")
STATEMENTS = (
    ast.FunctionDef, ast.ClassDef, ast.Return, ast.Assign, ast.AugAssign, ast.For, ast.While, ast.If, ast.Raise,
    ast.Try, ast.ImportFrom, ast.Expr, ast.Pass, ast.Break, ast.Continue,
)
EXPRESSIONS = (
    ast.BoolOp, ast.BinOp, ast.UnaryOp, ast.Lambda, ast.IfExp, ast.Dict, ast.Set, ast.ListComp, ast.Compare, ast.Call,
    ast.JoinedStr, ast.FormattedValue, ast.Constant, ast.Attribute, ast.Subscript, ast.Name, ast.List, ast.Tuple,
    ast.Slice,
)


def is_plain(value):
    """A written whole number, text, True, False, None, or a list, tuple or dict of these."""
    try:
        ast.literal_eval(value)
    except ValueError:
        return False
    return True


def text_faults(text):
    faults = []
    for row, line in enumerate(text.split("\n"), start=1):
        if len(line) > 120:
            faults.append((row, "L10 line"))
        if any(not " " <= sign <= "~" for sign in line):
            faults.append((row, "L14 sign"))
        if NEVER_WORDS.search(line):
            faults.append((row, "L17 word"))
    if text.count("\n") > 400:
        faults.append((0, "L10 file"))
    return faults


def top_faults(tree):
    faults = []
    names = []
    for place, node in enumerate(tree.body):
        if isinstance(node, ast.Expr):
            if place > 0 or not isinstance(node.value, ast.Constant):
                faults.append((node.lineno, "L3 top"))
        elif isinstance(node, ast.Assign):
            names.extend(ast.unparse(target) for target in node.targets)
            if not is_plain(node.value):
                faults.append((node.lineno, "L3 value"))
            if isinstance(node.value, (ast.List, ast.Dict)):
                inner = list(ast.walk(node.value))[1:]
                if any(isinstance(one, (ast.List, ast.Dict)) for one in inner):
                    faults.append((node.lineno, "L15 within"))
        elif isinstance(node, (ast.FunctionDef, ast.ClassDef)):
            names.append(node.name)
        elif isinstance(node, ast.ImportFrom):
            names.extend(alias.asname or alias.name for alias in node.names)
        else:
            faults.append((node.lineno, "L3 top"))
    faults.extend((0, "L15 twice " + name) for name in names if names.count(name) > 1)
    return faults


def function_faults(node):
    faults = []
    spec = node.args
    if spec.vararg or spec.kwarg or spec.kwonlyargs or spec.posonlyargs or node.decorator_list:
        faults.append((node.lineno, "L4"))
    if node.end_lineno - node.lineno + 1 > 40:
        faults.append((node.lineno, "L10 function"))
    return faults


def node_faults(node):
    """What can be said of one place by itself."""
    if isinstance(node, ast.stmt) and not isinstance(node, STATEMENTS):
        return ["L6"]
    if isinstance(node, ast.expr) and not isinstance(node, EXPRESSIONS):
        return ["L7"]
    if isinstance(node, ast.Constant) and isinstance(node.value, (float, bytes, complex)):
        return ["L7 value"]
    if isinstance(node, ast.BinOp) and isinstance(node.op, (ast.Div, ast.MatMult)):
        return ["L7 sign"]
    if isinstance(node, ast.BinOp) and isinstance(node.op, ast.Pow) and not isinstance(node.right, ast.Constant):
        return ["L27 power"]
    if isinstance(node, ast.ListComp) and (len(node.generators) > 1 or len(node.generators[0].ifs) > 1):
        return ["L7 comprehension"]
    if isinstance(node, ast.Assign) and len(node.targets) > 1:
        return ["L6 targets"]
    if isinstance(node, (ast.For, ast.While)) and node.orelse:
        return ["L6 else"]
    if isinstance(node, ast.Try) and node.finalbody:
        return ["L6 finally"]
    if isinstance(node, ast.Compare) and any(isinstance(op, (ast.Is, ast.IsNot)) for op in node.ops):
        if not any(isinstance(one, ast.Constant) for one in [node.left] + node.comparators):
            return ["L20"]
    if isinstance(node, ast.ClassDef) and (len(node.bases) > 1 or node.keywords or node.decorator_list):
        return ["L5"]
    return []


def import_faults(tree, package):
    faults = []
    for node in ast.walk(tree):
        if isinstance(node, ast.Import):
            faults.append((node.lineno, "L16 import"))
        if isinstance(node, ast.ImportFrom):
            if node.level or not node.module.startswith(package + ".") or node.names[0].name == "*":
                faults.append((node.lineno, "L2"))
            if node not in tree.body:
                faults.append((node.lineno, "L2 place"))
    return faults


def bound_names(tree):
    """Every name that the file binds, with its row."""
    names = []
    for node in ast.walk(tree):
        if isinstance(node, (ast.FunctionDef, ast.ClassDef)):
            names.append((node.lineno, node.name))
        elif isinstance(node, ast.arg):
            names.append((node.lineno, node.arg))
        elif isinstance(node, ast.Name) and not isinstance(node.ctx, ast.Load):
            names.append((node.lineno, node.id))
        elif isinstance(node, ast.ImportFrom):
            names.extend((node.lineno, alias.asname or alias.name) for alias in node.names)
        elif isinstance(node, ast.ExceptHandler) and node.name:
            names.append((node.lineno, node.name))
    return names


def name_faults(tree):
    faults = []
    bound = bound_names(tree)
    known = {name for row, name in bound} | OWN_NAMES
    for row, name in bound:
        if name.startswith("_") and name not in DUNDER_METHODS + ("__all__", "__version__"):
            faults.append((row, "L12 " + name))
        if name in dir(builtins) and name not in DUNDER_METHODS or name in NEVER_NAMES:
            faults.append((row, "L15 " + name))
    for node in ast.walk(tree):
        if isinstance(node, ast.Name) and isinstance(node.ctx, ast.Load) and node.id not in known:
            faults.append((node.lineno, "L8 " + node.id))
    taken = {node.name for node in tree.body if isinstance(node, ast.ClassDef)}
    for node in tree.body:
        if isinstance(node, ast.ImportFrom):
            taken.update(alias.name for alias in node.names)
    for row, name in bound_names(ast.Module([node for node in tree.body if isinstance(node, ast.FunctionDef)], [])):
        if name in taken:
            faults.append((row, "L15 " + name))
    return faults


def attribute_faults(tree, own_methods):
    faults = []
    called = [node.func for node in ast.walk(tree) if isinstance(node, ast.Call)]
    for node in ast.walk(tree):
        if not isinstance(node, ast.Attribute):
            continue
        if node in called:
            if node.attr not in OWN_METHODS and node.attr not in own_methods:
                faults.append((node.lineno, "L25 " + node.attr))
        elif node.attr in PYTHONS_ATTRIBUTES - VALUES_THAT_MAY_BE or node.attr in NEVER_NAMES:
            faults.append((node.lineno, "L26 " + node.attr))
        elif node.attr in own_methods or node.attr.startswith("_"):
            faults.append((node.lineno, "L18 " + node.attr))
    return faults


def walked_at_once(tree):
    """Every place where what is to be walked on the spot is walked so."""
    places = []
    for node in ast.walk(tree):
        if isinstance(node, (ast.For, ast.comprehension)):
            places.append(node.iter)
        if isinstance(node, ast.Call) and node.args:
            if isinstance(node.func, ast.Name) and node.func.id in WALKERS:
                places.append(node.args[0])
                if node.func.id == "zip":
                    places.extend(node.args)
            if isinstance(node.func, ast.Name) and node.func.id in ("min", "max") and len(node.args) == 1:
                places.append(node.args[0])
            if isinstance(node.func, ast.Attribute) and isinstance(node.func.value, ast.Constant):
                places.append(node.args[0])
    return places


def walk_faults(tree):
    faults = []
    places = walked_at_once(tree)
    for node in ast.walk(tree):
        if isinstance(node, ast.Call) and node not in places:
            name = ast.unparse(node.func)
            if name in TO_BE_WALKED or name.endswith((".items", ".keys", ".values")):
                faults.append((node.lineno, "L23 " + name))
    return faults


def methods_of(tree):
    return {
        method.name for node in tree.body if isinstance(node, ast.ClassDef)
        for method in node.body if isinstance(method, ast.FunctionDef)
    }


def faults_of(text, package="pilesblends", own_methods=()):
    tree = ast.parse(text)
    faults = text_faults(text) + top_faults(tree) + import_faults(tree, package) + name_faults(tree)
    faults += attribute_faults(tree, own_methods or methods_of(tree)) + walk_faults(tree)
    for node in ast.walk(tree):
        faults.extend((getattr(node, "lineno", 0), fault) for fault in node_faults(node))
        if isinstance(node, ast.FunctionDef):
            faults.extend(function_faults(node))
        if isinstance(node, ast.ClassDef):
            body = [one for one in node.body if not isinstance(one, (ast.FunctionDef, ast.Expr, ast.Pass))]
            faults.extend((one.lineno, "L5 body") for one in body)
    return faults


def imports_of(text):
    """(module, name) for each name that the file draws."""
    return [
        (node.module, alias.name) for node in ast.parse(text).body if isinstance(node, ast.ImportFrom)
        for alias in node.names
    ]


def defined_at_top(text):
    names = set()
    for node in ast.parse(text).body:
        if isinstance(node, (ast.FunctionDef, ast.ClassDef)):
            names.add(node.name)
        elif isinstance(node, ast.Assign):
            names.update(ast.unparse(target) for target in node.targets)
    return names
