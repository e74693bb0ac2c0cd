"""Looks for what the rules L1 to L28 of the language do not allow, as far as the code itself shows it."""

import ast
import builtins
import io
import re
import tokenize

PACKAGE = "relitgoals"
BUILTINS = set("""len range enumerate zip min max sum abs sorted reversed int str bool bytes list tuple dict set
frozenset isinstance ord repr any all divmod iter next super property staticmethod classmethod Exception ValueError
TypeError KeyError IndexError LookupError ZeroDivisionError ArithmeticError OverflowError RuntimeError
NotImplementedError AttributeError StopIteration NotImplemented""".split())
METHODS = set("""append clear copy count endswith extend find get index insert isalnum isalpha isdigit islower isspace
isupper items join keys ljust lower lstrip partition pop remove replace reverse rfind rjust rpartition rsplit rstrip
setdefault split splitlines startswith strip update upper values zfill bit_length title capitalize swapcase casefold
center expandtabs removeprefix removesuffix rindex isascii isdecimal isnumeric istitle isidentifier isprintable
translate encode decode hex sort add discard""".split())
DOUBLE = set("""init eq repr str len enter exit call iter lt le gt ge ne add sub mul floordiv mod pow and or xor lshift
rshift neg pos invert abs bool contains getitem setitem""".split())
IN_PLACE = set("add sub mul floordiv mod pow and or xor lshift rshift".split())
WORDS = re.compile(r"\b(type|typing|typing_extensions|enum|Enum|IntEnum|StrEnum|Flag|IntFlag|Generic|Protocol|ABC|ABCMeta"
                   r"|namedtuple|NamedTuple|TypedDict|TYPE_CHECKING|abstractmethod)\b|dataclass|overload|contextmanager")
BARRED = set("""register mro elements open input law version_info with_traceback add_note format format_map""".split())
STATEMENTS = (ast.FunctionDef, ast.ClassDef, ast.Return, ast.Delete, ast.Assign, ast.AugAssign, ast.AnnAssign, ast.For,
              ast.While, ast.If, ast.With, ast.Match, ast.Raise, ast.Try, ast.Assert, ast.ImportFrom, ast.Nonlocal,
              ast.Expr, ast.Pass, ast.Break, ast.Continue)
LIST_TAKERS = ("any", "all", "min", "max", "sum", "sorted")
AT_ONCE = ("zip", "enumerate", "reversed", "range", "items", "keys", "values")


def is_double(name):
    return name.startswith("__") and name.endswith("__")


def allowed_double(name):
    inner = name[2:-2]
    return inner in DOUBLE or inner[:1] in ("i", "r") and inner[1:] in IN_PLACE and inner != "rpow"


def text_faults(text):
    """What the rows of a file show: L10, L14, L17, L27."""
    rows = text.split("\n")
    if len(rows) > 400 or not text.endswith("\n"):
        yield 1, "L10 file too long, or without a line feed at its end"
    for at, row in enumerate(rows, 1):
        if len(row) > 120:
            yield at, "L10 line too long"
        if any(not " " <= sign <= "~" for sign in row):
            yield at, "L14 character"
        if WORDS.search(row):
            yield at, "L17 word"
    for token in tokenize.generate_tokens(io.StringIO(text).readline):
        if token.type == tokenize.STRING and "%" in token.string:
            yield token.start[0], "L27 percent sign"
        if token.type == tokenize.STRING and re.search(r"\\[^nt\\'\"\n]", token.string):
            yield token.start[0], "L27 escape"


def bound_names(node):
    """The names that a node binds."""
    if isinstance(node, ast.Name) and not isinstance(node.ctx, ast.Load):
        yield node.id
    elif isinstance(node, ast.arg):
        yield node.arg
    elif isinstance(node, (ast.ClassDef, ast.FunctionDef)):
        yield node.name
    elif isinstance(node, ast.alias):
        yield node.asname or node.name
    elif isinstance(node, ast.ExceptHandler) and node.name:
        yield node.name


def name_faults(tree):
    """L8, L12, L15, L17: how things are called, and which builtins are used."""
    methods = [row for node in ast.walk(tree) if isinstance(node, ast.ClassDef) for row in node.body]
    own = {name for node in ast.walk(tree) for name in bound_names(node)}
    for node in ast.walk(tree):
        for name in bound_names(node):
            if is_double(name) and node in methods and allowed_double(name):
                continue
            if name.startswith("_") or not name.isascii():
                yield node.lineno, f"L5 L12 name {name}"
            if name in BARRED or name in dir(builtins):
                yield node.lineno, f"L15 L17 name {name}"
        if isinstance(node, ast.Name) and node.id in dir(builtins) and node.id not in BUILTINS | own:
            yield node.lineno, f"L8 builtin {node.id}"
        if isinstance(node, ast.Attribute) and (node.attr in BARRED or node.attr.startswith("_")):
            if node.attr != "__init__":
                yield node.lineno, f"L12 L17 attribute {node.attr}"


def binding_faults(tree):
    """L15: no parameter or local variable has the name of a class or an import of the file."""
    taken = {alias.asname or alias.name for row in tree.body if isinstance(row, ast.ImportFrom) for alias in row.names}
    taken.update(row.name for row in tree.body if isinstance(row, ast.ClassDef))
    for node in ast.walk(tree):
        if isinstance(node, (ast.Name, ast.arg)):
            for name in bound_names(node):
                if name in taken:
                    yield node.lineno, f"L15 name {name}"


def told_faults(tree):
    """L28: __eq__, __repr__, __str__ and __len__ assign nothing but new lists, and return the right kinds of values."""
    for node in ast.walk(tree):
        if isinstance(node, ast.FunctionDef) and node.name in ("__eq__", "__repr__", "__str__", "__len__"):
            for row in ast.walk(node):
                if isinstance(row, ast.Assign) and not isinstance(row.value, (ast.List, ast.ListComp)):
                    yield row.lineno, f"L28 assignment in {node.name}"
                if isinstance(row, ast.Return) and not returns_rightly(node.name, row.value):
                    yield row.lineno, f"L28 return of {node.name}"
            if not isinstance(node.body[-1], ast.Return):
                yield node.lineno, f"L28 {node.name} does not end with a return"


def returns_rightly(name, value):
    if name == "__eq__":
        return True
    called = called_name(value)
    if name == "__len__":
        return called == "len" or isinstance(value, ast.Constant)
    return called in ("str", "repr", "join") or isinstance(value, (ast.JoinedStr, ast.Constant))


def node_faults(node):
    """What a single node shows: L4, L5, L6, L7, L10, L20."""
    if isinstance(node, ast.stmt) and not isinstance(node, STATEMENTS):
        yield "L6 statement"
    if isinstance(node, (ast.AsyncFor, ast.Await, ast.AsyncFunctionDef)):
        yield "L6 async"
    if isinstance(node, ast.FunctionDef) and node.end_lineno - node.lineno >= 40:
        yield "L10 function too long"
    if isinstance(node, ast.arguments) and node.posonlyargs:
        yield "L4 parameters"
    if isinstance(node, ast.ClassDef) and (node.decorator_list or node.keywords or len(node.bases) > 1):
        yield "L5 class"
    if isinstance(node, ast.Constant) and isinstance(node.value, (float, complex)):
        yield "L7 float"
    if isinstance(node, ast.Div):
        yield "L7 division"
    if isinstance(node, ast.Compare):
        for sign, other in zip(node.ops, node.comparators):
            singleton = isinstance(other, ast.Constant) and other.value in (None, True, False)
            if isinstance(sign, (ast.Is, ast.IsNot)) and not singleton:
                yield "L20 is"
    if isinstance(node, ast.Call) and isinstance(node.func, ast.Name) and node.func.id in LIST_TAKERS:
        if any(isinstance(value, ast.GeneratorExp) for value in node.args):
            yield "L7 generator expression"


def called_name(node):
    """The name by which a call calls, or None."""
    if not isinstance(node, ast.Call):
        return None
    return getattr(node.func, "id", None) or getattr(node.func, "attr", None)


def stored_faults(tree):
    """L23: what is iterated at once is not assigned, returned or put into a list."""
    for node in ast.walk(tree):
        if isinstance(node, (ast.Assign, ast.AnnAssign, ast.Return, ast.keyword)):
            values = [node.value]
        else:
            values = node.elts if isinstance(node, (ast.List, ast.Tuple)) else []
        for value in values:
            if called_name(value) in AT_ONCE:
                yield value.lineno, f"L23 stored {called_name(value)}"


def plain_value(node):
    """Whether a node is a plain value that may stand at module level."""
    return not any(isinstance(inner, (ast.Call, ast.Attribute, ast.ListComp, ast.DictComp, ast.SetComp, ast.Set,
                                      ast.Lambda, ast.GeneratorExp)) for inner in ast.walk(node))


def module_faults(tree):
    """What stands at module level: L2, L3, L16."""
    defined_before = False
    for at, node in enumerate(tree.body):
        if isinstance(node, ast.ImportFrom):
            if defined_before or node.level or not node.module.startswith(PACKAGE + "."):
                yield node.lineno, "L2 import"
            continue
        docstring = at == 0 and isinstance(node, ast.Expr) and isinstance(node.value, ast.Constant)
        defined_before = defined_before or not docstring
        assigned = isinstance(node, ast.Assign) and len(node.targets) == 1 and isinstance(node.targets[0], ast.Name)
        if assigned and not plain_value(node.value):
            yield node.lineno, "L3 value"
        if not docstring and not assigned and not isinstance(node, (ast.FunctionDef, ast.ClassDef)):
            yield node.lineno, "L3 statement"


def decorator_faults(tree):
    """L4, L5: the only decorators are those of properties and of static and class methods."""
    for node in ast.walk(tree):
        for mark in getattr(node, "decorator_list", []):
            plain = isinstance(mark, ast.Name) and mark.id in ("property", "staticmethod", "classmethod")
            if not plain and not (isinstance(mark, ast.Attribute) and mark.attr == "setter"):
                yield node.lineno, "L5 decorator"


def file_faults(text):
    """All faults of one file: pairs of a line and what is wrong there."""
    tree = ast.parse(text)
    faults = [*text_faults(text), *name_faults(tree), *module_faults(tree), *decorator_faults(tree)]
    faults.extend([*binding_faults(tree), *told_faults(tree), *stored_faults(tree)])
    for node in ast.walk(tree):
        faults.extend((getattr(node, "lineno", 0), fault) for fault in node_faults(node))
    return sorted(faults)


def package_faults(trees):
    """What the files show together: L16 imports, L18 methods and attributes, L25 methods of builtin values."""
    nodes = [node for tree in trees.values() for node in ast.walk(tree)]
    methods = {row.name for node in nodes if isinstance(node, ast.ClassDef) for row in node.body
               if isinstance(row, ast.FunctionDef) and not is_property(row)}
    stored = {node.attr for node in nodes if isinstance(node, ast.Attribute) and isinstance(node.ctx, ast.Store)}
    faults = [f"L18 {name} is a method and an attribute" for name in sorted(methods & stored)]
    faults.extend(generator_faults(nodes))
    for node in nodes:
        if isinstance(node, ast.Call) and isinstance(node.func, ast.Attribute):
            if node.func.attr not in methods | METHODS:
                faults.append(f"L25 method {node.func.attr}")
    for name, tree in trees.items():
        for node in tree.body:
            if isinstance(node, ast.ImportFrom):
                faults.extend(import_faults(name, node, trees))
    return faults


def is_property(method):
    """Whether a method is a property or its setter; another class may have an attribute of that name."""
    marks = [getattr(mark, "id", None) or getattr(mark, "attr", None) for mark in method.decorator_list]
    return "property" in marks or "setter" in marks


def generator_faults(nodes):
    """L23: no other function or method has the name of a generator."""
    functions = [node for node in nodes if isinstance(node, ast.FunctionDef)]
    names = [function.name for function in functions]
    for function in functions:
        if any(isinstance(inner, (ast.Yield, ast.YieldFrom)) for inner in ast.walk(function)):
            if names.count(function.name) > 1:
                yield f"L23 {function.name} is the name of a generator and of another function"


def names_of(tree):
    """The names that a file defines itself, without those that it imports."""
    rows = [row for row in tree.body if not isinstance(row, ast.ImportFrom)]
    return {name for row in rows for node in [row, *getattr(row, "targets", [])] for name in bound_names(node)}


def import_faults(name, node, trees):
    source = node.module.partition(".")[2]
    if source not in trees:
        yield f"L16 {name} imports from {source}"
        return
    for alias in node.names:
        if alias.name not in names_of(trees[source]):
            yield f"L16 {source} does not define {alias.name}"
    if name in reached(source, trees):
        yield f"L16 {name} and {source} import from each other"


def reached(name, trees):
    """The files that a file imports from, directly or through others, and the file itself."""
    found, waiting = [], [name]
    while waiting:
        name = waiting.pop()
        if name not in found and name in trees:
            found.append(name)
            waiting.extend(node.module.partition(".")[2] for node in trees[name].body if isinstance(node, ast.ImportFrom))
    return found
