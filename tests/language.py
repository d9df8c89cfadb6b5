"""A reader of the package's files that tells where they leave the part of Python that the package keeps to.

Where a rule allows a form only under conditions that are hard to see, and the package has no use for the form,
the form is told as a fault: sets, handlers of Python's own errors, methods with two underscores, annotations.
"""

import ast
import builtins
import re

PYTHONS_CALLS = set(
    "len range enumerate zip min max sum abs sorted reversed int str bool list tuple dict isinstance ord repr any all "
    "divmod".split()
)
PYTHONS_ERRORS = set(
    "Exception ValueError KeyError IndexError LookupError ZeroDivisionError ArithmeticError OverflowError "
    "RuntimeError NotImplementedError".split()
)
WALKED_AT_ONCE = set("zip enumerate reversed range".split())
WALKED_METHODS = set("items keys values".split())
WALKERS = set("list tuple dict sorted sum any all enumerate zip min max".split())
METHODS = set(
    "append clear copy count endswith extend find get index insert isalnum isalpha isdigit islower isspace isupper "
    "items join keys ljust lower lstrip partition pop remove replace reverse rfind rjust rpartition rsplit rstrip "
    "setdefault split splitlines startswith strip update upper values zfill bit_length".split()
)
KEYWORDS = {
    "sorted": {"key", "reverse"}, "min": {"key", "default"}, "max": {"key", "default"}, "sum": {"start"},
    "enumerate": {"start"}, "zip": {"strict"},
}
NAMES_OUT = set(
    "register mro elements open input version_info with_traceback add_note attrgetter breakpoint builtins compile "
    "copyright credits delattr dir eval exec exit gc getattr globals hasattr help id importlib license locals "
    "methodcaller os quit setattr super type vars sys".split()
)
FILES_OUT = set("test tests testing site conftest sitecustomize usercustomize typing enum".split())
WORDS_OUT = re.compile(
    r"\b(type|typing|typing_extensions|enum|Enum|IntEnum|StrEnum|Flag|IntFlag|Generic|Protocol|ABC|ABCMeta|"
    r"namedtuple|NamedTuple|TypedDict|TYPE_CHECKING|abstractmethod)\b|dataclass|overload|contextmanager"
)
FORMS = (
    ast.Module, ast.ImportFrom, ast.alias, ast.FunctionDef, ast.arguments, ast.arg, ast.ClassDef, ast.Lambda,
    ast.Assign, ast.AugAssign, ast.If, ast.While, ast.For, ast.Return, ast.Break, ast.Continue, ast.Pass, ast.Raise,
    ast.Try, ast.ExceptHandler, ast.Expr, ast.Constant, ast.List, ast.Tuple, ast.Dict, ast.BinOp, ast.UnaryOp,
    ast.BoolOp, ast.Compare, ast.IfExp, ast.Call, ast.keyword, ast.Attribute, ast.Subscript, ast.Slice, ast.ListComp,
    ast.comprehension, ast.JoinedStr, ast.FormattedValue, ast.Name, ast.expr_context, ast.boolop, ast.operator,
    ast.unaryop, ast.cmpop,
)


def faults(module, text):
    """The faults of one file, each a text; module is its name without the ending."""
    tree = ast.parse(text)
    found = name_of_file(module) + signs_and_sizes(text) + top_of_file(tree) + bound_names(tree)
    for parent in ast.walk(tree):
        for node in ast.iter_child_nodes(parent):
            found += [f"{getattr(node, 'lineno', 0)}: {fault}" for fault in of_node(node, parent, tree)]
    return found


def name_of_file(module):
    plain = module == "__init__" or re.fullmatch(r"[a-z][a-z0-9_]*", module)
    out = module in FILES_OUT or module.startswith("test_") or module in dir(builtins)
    return [] if plain and not out else ["L14 name of the file"]


def signs_and_sizes(text):
    found = []
    if not re.fullmatch(r"[ -~\n]*", text):
        found.append("L14 signs")
    lines = text.split("\n")
    if len(lines) > 401 or max(len(line) for line in lines) > 120:
        found.append("L10 size")
    if WORDS_OUT.search(text):
        found.append("L17 words")
    if re.search(r"\\[^nt\\'\"]", text):
        found.append("L27 escapes")
    return found


def is_plain_value(node):
    try:
        value = ast.literal_eval(node)
    except ValueError:
        return False
    inner = value if isinstance(value, (list, tuple)) else list(value.values()) if isinstance(value, dict) else []
    return not any(isinstance(part, (list, dict)) for part in inner)


def top_of_file(tree):
    found = [] if ast.get_docstring(tree) else ["L3 no docstring"]
    for node in tree.body[1:]:
        if isinstance(node, ast.Assign):
            if not isinstance(node.targets[0], ast.Name) or not is_plain_value(node.value):
                found.append(f"{node.lineno}: L3 no plain value")
        elif not isinstance(node, (ast.ImportFrom, ast.FunctionDef, ast.ClassDef)):
            found.append(f"{node.lineno}: L3 something is done")
    return found


def names_of_top(tree):
    found = []
    for node in tree.body:
        if isinstance(node, (ast.FunctionDef, ast.ClassDef)):
            found.append(node.name)
        elif isinstance(node, ast.ImportFrom):
            found += [alias.asname or alias.name for alias in node.names]
        elif isinstance(node, ast.Assign) and isinstance(node.targets[0], ast.Name):
            found.append(node.targets[0].id)
    return found


def names_within(tree):
    """Parameters, locals and functions within functions."""
    found = []
    for function in ast.walk(tree):
        if isinstance(function, (ast.FunctionDef, ast.Lambda)):
            for node in ast.walk(function):
                if isinstance(node, ast.Name) and isinstance(node.ctx, ast.Store):
                    found.append(node.id)
                elif isinstance(node, ast.arg):
                    found.append(node.arg)
                elif isinstance(node, ast.FunctionDef) and node is not function:
                    found.append(node.name)
                elif isinstance(node, ast.ExceptHandler) and node.name:
                    found.append(node.name)
    return found


def bound_names(tree):
    top = names_of_top(tree)
    within = names_within(tree)
    found = [f"L15 {name} is bound twice" for name in set(top) if top.count(name) > 1]
    found += [f"L15 {name} is bound within" for name in set(top) & set(within)]
    for name in set(top + within):
        if name in dir(builtins) or name in NAMES_OUT:
            found.append(f"L8 L17 {name}")
        if not re.fullmatch(r"[A-Za-z][A-Za-z0-9_]*", name):
            found.append(f"L12 {name}")
    return found


def of_node(node, parent, tree):
    if not isinstance(node, FORMS) or isinstance(node, (ast.Div, ast.MatMult)):
        return [f"L6 L7 {node.__class__.__name__}"]
    check = CHECKS.get(node.__class__)
    return check(node, parent, tree) if check else []


def of_import(node, parent, tree):
    found = [] if node in tree.body else ["L2 not at the top"]
    if node.level or not re.fullmatch(r"signsums\.[a-z0-9_]+", node.module or ""):
        found.append("L2 from elsewhere")
    if any(alias.name == "*" for alias in node.names):
        found.append("L2 a star")
    return found


def of_function(node, parent, tree):
    found = ["L10 a long function"] if node.end_lineno - node.lineno + 1 > 40 else []
    if node.decorator_list or node.returns:
        found.append("L4 L21 a decorator or an annotation")
    return found


def of_arguments(node, parent, tree):
    if node.vararg or node.kwarg or node.kwonlyargs or node.posonlyargs:
        return ["L4 parameters"]
    return [] if all(is_plain_value(default) for default in node.defaults) else ["L4 a default"]


def of_class(node, parent, tree):
    found = [] if node in tree.body else ["L15 a class within"]
    if node.decorator_list or node.keywords or len(node.bases) > 1:
        found.append("L5 a decorator or bases")
    for part in node.body:
        if not isinstance(part, (ast.FunctionDef, ast.Pass)) and not is_text(part):
            found.append("L5 a value in a class")
    return found


def is_text(node):
    return isinstance(node, ast.Expr) and isinstance(node.value, ast.Constant) and isinstance(node.value.value, str)


def of_expression(node, parent, tree):
    return [] if isinstance(node.value, ast.Call) or is_text(node) else ["L6 a statement that does nothing"]


def of_try(node, parent, tree):
    return ["L6 finally"] if node.finalbody else []


def of_handler(node, parent, tree):
    own = isinstance(node.type, ast.Name) and node.type.id not in PYTHONS_ERRORS - {"KeyError", "ZeroDivisionError"}
    return [] if own else ["L19 a handler"]


def of_name(node, parent, tree):
    known = set(names_of_top(tree)) | set(names_within(tree))
    if node.id in known:
        return []
    if node.id in PYTHONS_ERRORS:
        return [] if isinstance(parent, (ast.ClassDef, ast.ExceptHandler, ast.Call)) else ["L18 an error class"]
    if node.id not in PYTHONS_CALLS:
        return [f"L8 {node.id}"]
    called = isinstance(parent, ast.Call) and parent.func is node
    asked = isinstance(parent, ast.Call) and isinstance(parent.func, ast.Name) and parent.func.id == "isinstance"
    return [] if called or asked else [f"L22 {node.id} is kept"]


def of_attribute(node, parent, tree):
    found = [] if node.attr in METHODS else [f"L25 {node.attr}"]
    if not (isinstance(parent, ast.Call) and parent.func is node):
        found.append(f"L25 {node.attr} is not called")
    return found


def is_walked(node, parent):
    if isinstance(parent, (ast.For, ast.comprehension)):
        return parent.iter is node
    if not isinstance(parent, ast.Call):
        return False
    if isinstance(parent.func, ast.Attribute):
        return parent.func.attr == "join" and isinstance(parent.func.value, ast.Constant)
    return isinstance(parent.func, ast.Name) and parent.func.id in WALKERS


def of_call(node, parent, tree):
    found = []
    name = node.func.id if isinstance(node.func, ast.Name) else None
    method = node.func.attr if isinstance(node.func, ast.Attribute) else None
    if (name in WALKED_AT_ONCE or method in WALKED_METHODS) and not is_walked(node, parent):
        found.append("L23 not walked at once")
    if method or name in PYTHONS_CALLS:
        if not {keyword.arg for keyword in node.keywords} <= KEYWORDS.get(name, set()):
            found.append("L22 a keyword")
    if any(keyword.arg is None for keyword in node.keywords):
        found.append("L7 stars")
    return found


def of_constant(node, parent, tree):
    if isinstance(node.value, str):
        return ["L27 a sign in a text"] if "%" in node.value else []
    return [] if node.value is None or isinstance(node.value, int) else ["L7 a value"]


def of_pair(node, parent, tree):
    if not isinstance(node.op, ast.Pow):
        return []
    written = isinstance(node.right, ast.Constant) and isinstance(node.right.value, int)
    return [] if written and 0 <= node.right.value <= 64 else ["L27 an exponent"]


def of_comparison(node, parent, tree):
    for operator, right in zip(node.ops, node.comparators):
        if isinstance(operator, (ast.Is, ast.IsNot)):
            if not (isinstance(right, ast.Constant) and right.value in (None, True, False)):
                return ["L20 is"]
    return []


def of_comprehension(node, parent, tree):
    return [] if len(node.generators) == 1 and len(node.generators[0].ifs) <= 1 else ["L7 a comprehension"]


def of_braces(node, parent, tree):
    plain = isinstance(node.value, ast.Name) and node.format_spec is None and node.conversion in (-1, ord("r"))
    return [] if plain else ["L7 braces"]


CHECKS = {
    ast.ImportFrom: of_import,
    ast.FunctionDef: of_function,
    ast.arguments: of_arguments,
    ast.arg: lambda node, parent, tree: ["L21 an annotation"] if node.annotation else [],
    ast.ClassDef: of_class,
    ast.Assign: lambda node, parent, tree: ["L6 several targets"] if len(node.targets) > 1 else [],
    ast.Expr: of_expression,
    ast.For: lambda node, parent, tree: ["L6 else"] if node.orelse else [],
    ast.While: lambda node, parent, tree: ["L6 else"] if node.orelse else [],
    ast.Try: of_try,
    ast.ExceptHandler: of_handler,
    ast.Name: of_name,
    ast.Attribute: of_attribute,
    ast.Call: of_call,
    ast.Constant: of_constant,
    ast.BinOp: of_pair,
    ast.Compare: of_comparison,
    ast.ListComp: of_comprehension,
    ast.FormattedValue: of_braces,
}


def drawn_from(text):
    """Per module of the package that the file draws from, the names it takes."""
    return {
        node.module.split(".")[-1]: [alias.name for alias in node.names]
        for node in ast.parse(text).body if isinstance(node, ast.ImportFrom)
    }


def defined_in(text):
    tree = ast.parse(text)
    taken = [name for names in drawn_from(text).values() for name in names]
    return [name for name in names_of_top(tree) if name not in taken]


def faults_between(texts):
    """The faults of the files together; texts has the text of each module under its name."""
    found = []
    for module, text in texts.items():
        for source, names in drawn_from(text).items():
            for name in names:
                if name not in defined_in(texts[source]):
                    found.append(f"L16 {module} takes {name} from {source}, which does not define it")
        seen = []
        ahead = list(drawn_from(text))
        while ahead:
            source = ahead.pop()
            if source not in seen:
                seen.append(source)
                ahead += list(drawn_from(texts[source]))
        if module in seen:
            found.append(f"L16 {module} draws from itself in the end")
    for name in names_of_top(ast.parse(texts["__init__"])):
        if name in texts:
            found.append(f"L16 __init__ binds {name}")
    return found
