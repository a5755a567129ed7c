"""Holds the package's files to the rules L1 to L28 as far as their text alone can show it.

Where a rule leaves room that the program has no need of, this check is the narrower one.
"""

import ast
import builtins
import re

PACKAGE = "sashiko"
OWN_ERRORS = (
    "Exception ValueError TypeError KeyError IndexError LookupError ZeroDivisionError ArithmeticError "
    "OverflowError RuntimeError NotImplementedError AttributeError StopIteration"
).split()
FREELY_TAKEN = ("KeyError", "ZeroDivisionError", "StopIteration")
CALLED = (
    "len range enumerate zip min max sum abs sorted reversed int str bool list tuple dict set frozenset "
    "isinstance ord repr any all divmod"
).split()
LAZY = ("zip", "enumerate", "reversed", "range", "items", "keys", "values")
TAKES_LAZY = "list tuple dict sorted sum any all enumerate zip min max".split()
METHODS = (
    "append clear copy count endswith extend find get index insert isalnum isalpha isdigit islower isspace "
    "isupper items join keys ljust lower lstrip partition pop remove replace reverse rfind rjust rpartition "
    "rsplit rstrip setdefault split splitlines startswith strip update upper values zfill bit_length"
).split()
CHANGES = "append clear extend insert pop remove reverse setdefault update".split()
VALUES_OF_PYTHON = "count index title find get join lower upper split strip copy add".split()
NOWHERE = "register mro elements open input version_info with_traceback add_note format format_map".split()
NO_NAMES = (
    "attrgetter breakpoint builtins compile copyright credits delattr dir eval exec exit gc getattr globals "
    "hasattr help id importlib license locals methodcaller os quit setattr super type vars sys chr __name__"
).split()
NO_WORDS = re.compile(
    r"\b(type|typing|typing_extensions|enum|Enum|IntEnum|StrEnum|Flag|IntFlag|Generic|Protocol|ABC|ABCMeta|"
    r"namedtuple|NamedTuple|TypedDict|TYPE_CHECKING|abstractmethod)\b|dataclass|overload|contextmanager"
)
NO_FILES = re.compile(r"(test.*|site|conftest|sitecustomize|usercustomize|typing|enum|dataclass.*)$")
STATEMENTS = (
    ast.Assign, ast.AugAssign, ast.If, ast.While, ast.For, ast.Return, ast.Break, ast.Continue, ast.Pass,
    ast.Raise, ast.Try, ast.Expr, ast.FunctionDef, ast.ClassDef, ast.ImportFrom,
)
EXPRESSIONS = (
    ast.Constant, ast.List, ast.Tuple, ast.Dict, ast.BinOp, ast.UnaryOp, ast.BoolOp, ast.Compare, ast.IfExp,
    ast.Call, ast.Attribute, ast.Subscript, ast.Slice, ast.ListComp, ast.JoinedStr, ast.FormattedValue,
    ast.Name, ast.Lambda,
)
KEYWORDS = {
    "sorted": ("key", "reverse"), "min": ("key", "default"), "max": ("key", "default"),
    "sum": ("start",), "enumerate": ("start",), "zip": ("strict",),
}


class Checked:
    """One file with what its rules need: its text, its tree and who stands above whom in it."""

    def __init__(self, path, text):
        self.path, self.text, self.tree, self.found = path, text, ast.parse(text), []
        self.above = {}
        self.walked = list(ast.walk(self.tree))
        for node in self.walked:
            for child in ast.iter_child_nodes(node):
                self.above[child] = node

    def fault(self, rule, node):
        self.found.append((rule, self.path, getattr(node, "lineno", node)))

    def nodes(self, *kinds):
        return [node for node in self.walked if isinstance(node, kinds)]


def check_path(file):
    parts = file.path.split("/")
    name = parts[-1].removesuffix(".py")
    plain = re.fullmatch(r"[a-z][a-z0-9_]*\.py", parts[-1]) or parts[-1] == "__init__.py"
    if parts[0] != PACKAGE or len(parts) != 2 or not plain:
        file.fault("L1", 0)
    if NO_FILES.match(name) or name in dir(builtins):
        file.fault("L14", 0)


def check_text(file):
    lines = file.text.split("\n")
    for number, line in enumerate(lines, 1):
        if len(line) > 120 or "\t" in line:
            file.fault("L10", number)
        if re.search(r"[^ -~]", line):
            file.fault("L14", number)
        if NO_WORDS.search(line):
            file.fault("L17", number)
        if re.search(r"\\[^nt\\'\"]", line):
            file.fault("L27", number)
    if len(lines) > 401:
        file.fault("L10", 401)


def is_docstring(node):
    return isinstance(node, ast.Expr) and isinstance(node.value, ast.Constant) and isinstance(node.value.value, str)


def check_top(file):
    bound = []
    for node in file.tree.body:
        if isinstance(node, (ast.FunctionDef, ast.ClassDef)):
            bound.append(node.name)
        elif isinstance(node, ast.ImportFrom):
            bound.extend(alias.asname or alias.name for alias in node.names)
        elif isinstance(node, ast.Assign) and isinstance(node.targets[0], ast.Name):
            bound.append(node.targets[0].id)
            calls = [part for part in ast.walk(node.value) if isinstance(part, (ast.Call, ast.Lambda, ast.ListComp))]
            if calls:
                file.fault("L3", node)
            if isinstance(node.value, (ast.List, ast.Dict)):
                inner = [part for part in ast.walk(node.value) if isinstance(part, (ast.List, ast.Dict))]
                if len(inner) > 1:
                    file.fault("L15", node)
        elif not is_docstring(node):
            file.fault("L3", node)
    if len(set(bound)) != len(bound) or (file.path.endswith("__init__.py") and bound):
        file.fault("L15", 0)
    return bound


def check_definitions(file):
    for node in file.nodes(ast.FunctionDef):
        given = node.args
        if given.vararg or given.kwarg or given.kwonlyargs or given.posonlyargs or node.decorator_list:
            file.fault("L4", node)
        if node.end_lineno - node.lineno + 1 > 40:
            file.fault("L10", node)
        if node.returns or any(argument.annotation for argument in given.args):
            file.fault("L21", node)
        for default in given.defaults:
            if not isinstance(default, ast.Constant):
                file.fault("L4", node)
    for node in file.nodes(ast.ClassDef):
        methods = [part.name for part in node.body if isinstance(part, ast.FunctionDef)]
        others = [part for part in node.body if not isinstance(part, ast.FunctionDef) and not is_docstring(part)]
        if others or len(node.bases) > 1 or node.keywords or node.decorator_list:
            file.fault("L5", node)
        if any(name.startswith("__") and name != "__init__" for name in methods):
            file.fault("L28", node)
        if len(set(methods)) != len(methods):
            file.fault("L18", node)
        if not isinstance(file.above[node], ast.Module):
            file.fault("L15", node)


def check_statements(file):
    for node in file.nodes(ast.stmt):
        if isinstance(node, ast.Import):
            file.fault("L2", node)
        elif not isinstance(node, STATEMENTS):
            file.fault("L6", node)
        if isinstance(node, ast.Assign) and len(node.targets) > 1:
            file.fault("L6", node)
        if isinstance(node, (ast.For, ast.While)) and node.orelse:
            file.fault("L6", node)
        if isinstance(node, ast.Try) and node.finalbody:
            file.fault("L6", node)
        if isinstance(node, ast.Expr) and not isinstance(node.value, ast.Call) and not is_docstring(node):
            file.fault("L6", node)
        if isinstance(node, ast.ImportFrom) and not isinstance(file.above[node], ast.Module):
            file.fault("L2", node)
        if isinstance(node, ast.Raise) and not isinstance(node.exc, ast.Call):
            file.fault("L19", node)
    for node in file.nodes(ast.ExceptHandler):
        taken = "" if node.type is None else ast.unparse(node.type)
        if not taken or taken.startswith("(") or taken in set(OWN_ERRORS) - set(FREELY_TAKEN):
            file.fault("L19", node)


def check_expressions(file):
    for node in file.nodes(ast.expr):
        if not isinstance(node, EXPRESSIONS):
            file.fault("L7", node)
        if isinstance(node, ast.Constant) and isinstance(node.value, (float, complex, bytes)):
            file.fault("L7", node)
        if isinstance(node, ast.Constant) and isinstance(node.value, str) and "%" in node.value:
            file.fault("L27", node)
        if isinstance(node, ast.ListComp) and (len(node.generators) > 1 or len(node.generators[0].ifs) > 1):
            file.fault("L7", node)
        if isinstance(node, ast.FormattedValue) and not isinstance(node.value, ast.Name):
            file.fault("L7", node)
        if isinstance(node, ast.FormattedValue) and (node.format_spec or node.conversion not in (-1, ord("r"))):
            file.fault("L7", node)
    for node in file.nodes(ast.BinOp, ast.AugAssign):
        if isinstance(node.op, (ast.Div, ast.MatMult)):
            file.fault("L7", node)
        if isinstance(node.op, ast.Pow):
            power = node.right if isinstance(node, ast.BinOp) else node.value
            if not isinstance(power, ast.Constant) or power.value not in range(65):
                file.fault("L27", node)
    for node in file.nodes(ast.Compare):
        if any(isinstance(sign, (ast.Is, ast.IsNot)) for sign in node.ops):
            sides = [node.left] + node.comparators
            if not any(isinstance(side, ast.Constant) and side.value in (None, True, False) for side in sides):
                file.fault("L20", node)


def bound_names(file):
    """The names that parameters, assignments, loops and handlers bind, with their places."""
    names = [(node.arg, node) for node in file.nodes(ast.arg)]
    names += [(node.id, node) for node in file.nodes(ast.Name) if isinstance(node.ctx, ast.Store)]
    return names + [(node.name, node) for node in file.nodes(ast.ExceptHandler) if node.name]


def check_names(file):
    classes = [node.name for node in file.nodes(ast.ClassDef)]
    imported = [alias.asname or alias.name for node in file.nodes(ast.ImportFrom) for alias in node.names]
    for name, node in bound_names(file):
        if name in dir(builtins) or name in classes or name in imported:
            file.fault("L15", node)
    defined = [(node.name, node) for node in file.nodes(ast.FunctionDef, ast.ClassDef)]
    attributes = [(node.attr, node) for node in file.nodes(ast.Attribute)]
    for name, node in bound_names(file) + defined + attributes:
        if not re.fullmatch(r"[A-Za-z][A-Za-z0-9_]*", name) and name != "__init__":
            file.fault("L12", node)
        if name in NOWHERE or re.match(r"(f|tb|co|gi|cr)_", name):
            file.fault("L17", node)
    for node in file.nodes(ast.Name):
        if node.id in NO_NAMES:
            file.fault("L17", node)
        elif node.id in dir(builtins) and node.id not in CALLED + OWN_ERRORS:
            file.fault("L8", node)


def is_isinstance_kind(file, node):
    above = file.above[node]
    if isinstance(above, ast.Tuple):
        node, above = above, file.above[above]
    called = isinstance(above, ast.Call) and isinstance(above.func, ast.Name) and above.func.id == "isinstance"
    return called and node == above.args[-1]


def check_calls(file):
    for node in file.nodes(ast.Name):
        above = file.above[node]
        is_key = isinstance(above, ast.keyword) and above.arg == "key"
        is_call = isinstance(above, ast.Call) and above.func == node
        if node.id in CALLED and not is_call and not is_key and not is_isinstance_kind(file, node):
            file.fault("L22", node)
    for node in file.nodes(ast.Call):
        name = node.func.id if isinstance(node.func, ast.Name) else ""
        method = node.func.attr if isinstance(node.func, ast.Attribute) else ""
        given = [keyword.arg for keyword in node.keywords]
        if (name in CALLED or method in METHODS) and set(given) - set(KEYWORDS.get(name, ())):
            file.fault("L22", node)
        if name in ("set", "frozenset"):
            file.fault("L24", node)
        if (name in LAZY or method in LAZY) and not is_walked(file, node):
            file.fault("L23", node)


def is_walked(file, node):
    above = file.above[node]
    if isinstance(above, (ast.For, ast.comprehension)):
        return above.iter == node
    if not isinstance(above, ast.Call) or node not in above.args:
        return False
    if isinstance(above.func, ast.Name):
        return above.func.id in TAKES_LAZY
    return isinstance(above.func, ast.Attribute) and above.func.attr == "join"


def check_loops(file):
    for node in file.nodes(ast.For):
        walked = ast.unparse(node.iter)
        for part in ast.walk(node):
            changed = None
            if isinstance(part, ast.Call) and isinstance(part.func, ast.Attribute) and part.func.attr in CHANGES:
                changed = part.func.value
            if isinstance(part, ast.Subscript) and isinstance(part.ctx, ast.Store):
                changed = part.value
            if changed is not None and re.search(r"\b" + re.escape(ast.unparse(changed)) + r"\b", walked):
                if not walked.startswith(("list(", "sorted(")):
                    file.fault("L23", part)


def check_imports(files):
    """Own modules alone, names from the file that defines them, and no ring of files."""
    draws = {}
    for path, file in files.items():
        draws[path] = []
        for node in file.nodes(ast.ImportFrom):
            target = (node.module or "").replace(".", "/") + ".py"
            if node.level or target not in files:
                file.fault("L2", node)
                continue
            draws[path] += [target, PACKAGE + "/__init__.py"]
            own = [part.name for part in files[target].tree.body if isinstance(part, (ast.FunctionDef, ast.ClassDef))]
            own += [part.targets[0].id for part in files[target].tree.body if isinstance(part, ast.Assign)]
            if any(alias.name not in own for alias in node.names):
                file.fault("L16", node)
    for path in files:
        reached, ahead = [], list(draws[path])
        while ahead:
            other = ahead.pop()
            if other not in reached:
                reached.append(other)
                ahead += draws.get(other, [])
        if path in reached:
            files[path].fault("L16", 0)


def check_members(files):
    """Methods and values over the whole package: never one name for both, and no borrowed names."""
    methods, values = [], []
    for file in files.values():
        for node in file.nodes(ast.ClassDef):
            methods += [part.name for part in node.body if isinstance(part, ast.FunctionDef)]
        values += [(node.attr, file, node) for node in file.nodes(ast.Attribute) if isinstance(node.ctx, ast.Store)]
    taken = dir("") + dir(0) + dir([]) + dir({}) + dir(set()) + dir(b"")
    for name, file, node in values:
        if name in methods:
            file.fault("L18", node)
        if name in taken + ["args"] and name not in VALUES_OF_PYTHON:
            file.fault("L26", node)
    for file in files.values():
        for node in file.nodes(ast.Call):
            if isinstance(node.func, ast.Attribute) and node.func.attr not in METHODS + methods:
                file.fault("L25", node)


def faults(sources):
    """The faults of a package, by its files' paths and texts: a list of triples (rule, path, line)."""
    files = {path: Checked(path, text) for path, text in sources.items()}
    for file in files.values():
        check_top(file)
        for check in (check_path, check_text, check_definitions, check_statements, check_expressions):
            check(file)
        for check in (check_names, check_calls, check_loops):
            check(file)
    check_imports(files)
    check_members(files)
    found = [fault for file in files.values() for fault in file.found]
    if PACKAGE + "/__init__.py" not in files:
        found.append(("L14", PACKAGE, 0))
    return found
