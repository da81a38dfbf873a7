"""A reader of the package's own files that tells where they leave the language's rules L1 to L28.

It sees what can be seen from the form of a file alone; it is no proof that all of the rules are kept.
"""

import ast
import re

NODES = (
    ast.Module, ast.Expr, ast.ImportFrom, ast.alias, ast.FunctionDef, ast.arguments, ast.arg, ast.Lambda,
    ast.ClassDef, ast.Assign, ast.AugAssign, ast.If, ast.While, ast.For, ast.Return, ast.Break, ast.Continue,
    ast.Pass, ast.Raise, ast.Try, ast.ExceptHandler, ast.Constant, ast.List, ast.Tuple, ast.Dict, ast.BinOp,
    ast.UnaryOp, ast.BoolOp, ast.Compare, ast.IfExp, ast.Call, ast.keyword, ast.Attribute, ast.Subscript, ast.Slice,
    ast.ListComp, ast.comprehension, ast.JoinedStr, ast.FormattedValue, ast.Name, ast.Load, ast.Store,
    ast.operator, ast.unaryop, ast.boolop, ast.cmpop,
)
OWN_NAMES = set(
    "len range enumerate zip min max sum abs sorted reversed int str bool list tuple dict set frozenset isinstance "
    "ord repr any all divmod Exception ValueError TypeError KeyError IndexError LookupError ZeroDivisionError "
    "ArithmeticError OverflowError RuntimeError NotImplementedError AttributeError StopIteration".split()
)
METHODS = set(
    "append clear copy count endswith extend find get index insert isalnum isalpha isdigit islower isspace isupper "
    "items join keys ljust lower lstrip partition pop remove replace reverse rfind rjust rpartition rsplit rstrip "
    "setdefault split splitlines startswith strip update upper values zfill bit_length".split()
)
WALKED = {"zip", "enumerate", "reversed", "range"}
WALKERS = {"list", "tuple", "dict", "sorted", "sum", "any", "all", "enumerate", "zip", "min", "max"}
KEYWORDS = {"sorted": {"key", "reverse"}, "min": {"key", "default"}, "max": {"key", "default"}, "sum": {"start"},
            "enumerate": {"start"}, "zip": {"strict"}}
WORDS = ("type typing typing_extensions enum Enum IntEnum StrEnum Flag IntFlag Generic Protocol ABC ABCMeta namedtuple "
         "NamedTuple TypedDict TYPE_CHECKING abstractmethod").split()
WITHIN = ("dataclass", "overload", "contextmanager")
NEVER = {"register", "mro", "elements", "open", "input", "version_info", "with_traceback", "add_note", "format",
         "format_map"}


# What a value of an object is not called: names that Python's own values have, but those that are let.
OWN_PLACES = {name for value in ("", 0, [], {}, set(), b"", ()) for name in dir(value)}
LET_PLACES = {"count", "index", "title", "find", "get", "join", "lower", "upper", "split", "strip", "copy", "add"}


def breaches(text, builtin_names):
    """The breaches in one file: a list of (rule, row, what)."""
    found = sign_breaches(text) + word_breaches(text)
    tree = ast.parse(text)
    parents = {child: node for node in ast.walk(tree) for child in ast.iter_child_nodes(node)}
    found += top_breaches(tree)
    bound = bound_names(tree)
    for node in ast.walk(tree):
        found += node_breaches(node, parents)
        found += name_breaches(node, bound, builtin_names)
        found += call_breaches(node, parents, bound)
    return found


def sign_breaches(text):
    found = []
    rows = text.split("\n")
    if len(rows) > 401:
        found.append(("L10", len(rows), "a long file"))
    for number, row in enumerate(rows, start=1):
        if len(row) > 120:
            found.append(("L10", number, "a long line"))
        if re.search(r"[^ -~]", row):
            found.append(("L14", number, "a sign"))
    return found


def word_breaches(text):
    found = []
    for number, row in enumerate(text.split("\n"), start=1):
        words = re.findall(r"[A-Za-z0-9_]+", row)
        found += [("L17", number, word) for word in words if word in WORDS]
        found += [("L17", number, part) for part in WITHIN if part in row]
    return found


def top_breaches(tree):
    found, names = [], []
    for place, node in enumerate(tree.body):
        if isinstance(node, ast.Expr):
            if place != 0 or not isinstance(node.value, ast.Constant) or not isinstance(node.value.value, str):
                found.append(("L3", node.lineno, "something done at the top"))
        elif isinstance(node, ast.ImportFrom):
            if node.level or not (node.module or "").startswith("stuckwires."):
                found.append(("L2", node.lineno, "an import"))
            if any(alias.name == "*" for alias in node.names):
                found.append(("L2", node.lineno, "import *"))
            names += [alias.asname or alias.name for alias in node.names]
        elif isinstance(node, (ast.FunctionDef, ast.ClassDef)):
            names.append(node.name)
        elif isinstance(node, ast.Assign) and isinstance(node.targets[0], ast.Name):
            names.append(node.targets[0].id)
            inner = list(ast.iter_child_nodes(node.value))
            if any(isinstance(part, (ast.List, ast.Dict, ast.Set)) for child in inner for part in ast.walk(child)):
                found.append(("L15", node.lineno, "a list within a list of the top"))
            if any(isinstance(part, (ast.Call, ast.Set, ast.ListComp, ast.BinOp)) for part in ast.walk(node.value)):
                found.append(("L3", node.lineno, "no plain value"))
        else:
            found.append(("L3", node.lineno, "a statement at the top"))
    found += [("L15", 0, name) for name in set(names) if names.count(name) > 1]
    return found


def bound_names(tree):
    bound = {}
    for node in ast.walk(tree):
        if isinstance(node, (ast.FunctionDef, ast.ClassDef)):
            bound[node.name] = node.lineno
        elif isinstance(node, ast.arg):
            bound[node.arg] = node.lineno
        elif isinstance(node, ast.alias):
            bound[node.asname or node.name] = node.lineno
        elif isinstance(node, ast.Name) and isinstance(node.ctx, ast.Store):
            bound[node.id] = node.lineno
        elif isinstance(node, ast.ExceptHandler) and node.name:
            bound[node.name] = node.lineno
    return bound


def name_breaches(node, bound, builtin_names):
    found = []
    if isinstance(node, ast.Module):
        for name, row in bound.items():
            if not re.fullmatch(r"[A-Za-z][A-Za-z0-9_]*", name) and name not in ("__init__", "__eq__", "__repr__",
                                                                               "__str__", "__len__"):
                found.append(("L12", row, name))
            if name in builtin_names:
                found.append(("L15", row, name))
    if isinstance(node, ast.Name):
        if node.id in NEVER:
            found.append(("L17", node.lineno, node.id))
        if isinstance(node.ctx, ast.Load) and node.id not in bound and node.id not in OWN_NAMES:
            found.append(("L8", node.lineno, node.id))
    if isinstance(node, ast.Attribute) and node.attr in NEVER:
        found.append(("L17", node.lineno, node.attr))
    if isinstance(node, ast.Attribute) and isinstance(node.ctx, ast.Store):
        if node.attr in OWN_PLACES - LET_PLACES or node.attr in ("args", "sort"):
            found.append(("L26", node.lineno, node.attr))
        if not isinstance(node.value, ast.Name):
            found.append(("L18", node.lineno, node.attr))
    return found


def node_breaches(node, parents):
    row = getattr(node, "lineno", 0)
    found = []
    if not isinstance(node, NODES):
        found.append(("L6/L7", row, node.__class__.__name__))
    if isinstance(node, ast.FunctionDef):
        found += def_breaches(node)
    if isinstance(node, ast.ClassDef):
        plain = all(isinstance(part, (ast.FunctionDef, ast.Pass)) for part in node.body)
        if node.decorator_list or node.keywords or len(node.bases) > 1 or not plain:
            found.append(("L5", row, node.name))
        if not isinstance(parents[node], ast.Module):
            found.append(("L15", row, node.name))
        methods = [part.name for part in node.body if isinstance(part, ast.FunctionDef)]
        stored = [part for part in ast.walk(node) if isinstance(part, ast.Attribute)]
        kept = {part.attr for part in stored if isinstance(part.ctx, ast.Store)}
        found += [("L18", row, name) for name in methods if name in kept or methods.count(name) > 1]
    inner = isinstance(node, ast.Expr) and not isinstance(parents[node], ast.Module)
    if inner and not isinstance(node.value, ast.Call):
        found.append(("L6", row, "a statement that is no call"))
    if isinstance(node, ast.Assign) and (len(node.targets) != 1 or isinstance(node.targets[0], (ast.Tuple, ast.List))):
        found.append(("L6", row, "several targets"))
    if isinstance(node, (ast.For, ast.While)) and node.orelse:
        found.append(("L6", row, "else behind a loop"))
    if isinstance(node, ast.Try) and node.finalbody:
        found.append(("L6", row, "finally"))
    if isinstance(node, ast.ExceptHandler) and not isinstance(node.type, ast.Name):
        found.append(("L19", row, "no named error class"))
    if isinstance(node, ast.Raise) and not isinstance(node.exc, ast.Call):
        found.append(("L19", row, "an error not made on the spot"))
    return found + value_breaches(node, row, parents)


def def_breaches(node):
    found = []
    arguments = node.args
    if node.end_lineno - node.lineno + 1 > 40:
        found.append(("L10", node.lineno, node.name))
    if arguments.vararg or arguments.kwarg or arguments.kwonlyargs or arguments.posonlyargs or node.decorator_list:
        found.append(("L4", node.lineno, node.name))
    if node.returns or any(arg.annotation for arg in arguments.args):
        found.append(("L21", node.lineno, node.name))
    return found


def value_breaches(node, row, parents):
    found = []
    if isinstance(node, ast.Constant):
        if not (node.value is None or isinstance(node.value, (bool, int, str))):
            found.append(("L7", row, "a value of another kind"))
        if isinstance(node.value, str) and "%" in node.value:
            found.append(("L27", row, "the sign of remainders in a text"))
    if isinstance(node, (ast.Div, ast.MatMult)):
        found.append(("L7", row, node.__class__.__name__))
    if isinstance(node, ast.BinOp) and isinstance(node.op, ast.Pow):
        if not (isinstance(node.right, ast.Constant) and node.right.value in range(65)):
            found.append(("L27", row, "an exponent that is not written"))
    if isinstance(node, ast.ListComp) and (len(node.generators) != 1 or len(node.generators[0].ifs) > 1):
        found.append(("L7", row, "a comprehension of several"))
    if isinstance(node, ast.FormattedValue):
        if not isinstance(node.value, ast.Name) or node.format_spec or node.conversion not in (-1, ord("r")):
            found.append(("L7", row, "an f-string"))
    if isinstance(node, ast.Compare):
        sides = [node.left] + node.comparators
        for place, sign in enumerate(node.ops):
            pair = sides[place:place + 2]
            known = any(isinstance(side, ast.Constant) and side.value in (None, True, False) for side in pair)
            if isinstance(sign, (ast.Is, ast.IsNot)) and not known:
                found.append(("L20", row, "is"))
    if isinstance(node, ast.Attribute) and isinstance(node.ctx, ast.Load):
        parent = parents[node]
        if node.attr in METHODS and not (isinstance(parent, ast.Call) and parent.func is node):
            found.append(("L25", row, node.attr))
    return found


def call_breaches(node, parents, bound):
    if not isinstance(node, ast.Call):
        return []
    found = []
    row, parent = node.lineno, parents[node]
    if isinstance(node.func, ast.Attribute):
        if node.func.attr not in METHODS and node.func.attr not in bound:
            found.append(("L25", row, node.func.attr))
    if not isinstance(node.func, ast.Name):
        return found
    name = node.func.id
    if name in OWN_NAMES and any(word.arg not in KEYWORDS.get(name, set()) for word in node.keywords):
        found.append(("L22", row, name))
    caller = parent.func.id if isinstance(parent, ast.Call) and isinstance(parent.func, ast.Name) else ""
    if name in WALKED:
        walked = isinstance(parent, (ast.For, ast.comprehension)) and parent.iter is node
        if not walked and caller not in WALKERS:
            found.append(("L23", row, name))
    if name == "set":
        asked = isinstance(parent, (ast.Compare, ast.BinOp)) or caller in ("sorted", "len")
        if not asked:
            found.append(("L24", row, name))
    return found
