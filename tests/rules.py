"""Reads a package's files and tells where they break the rules L1 to L28 of its language.

A rule that leaves a choice is held at its narrowest: no annotation at all, no tuple as a target, no recursion.
"""

import ast
import builtins
import io
import re
import tokenize

PACKAGE = "sidings"
PLAIN_NAME = re.compile(r"[A-Za-z][A-Za-z0-9_]*\Z")
ERRORS = set("""
    Exception ValueError TypeError KeyError IndexError LookupError ZeroDivisionError ArithmeticError OverflowError
    RuntimeError NotImplementedError AttributeError StopIteration
""".split())
KINDS = {"int", "str", "bool", "list", "tuple", "dict"}
CALLED = set("""
    len range enumerate zip min max sum abs sorted reversed set frozenset isinstance ord repr any all divmod
""".split()) | KINDS
CHANGES = {"append", "clear", "extend", "insert", "pop", "remove", "reverse", "setdefault", "update"}
METHODS = CHANGES | set("""
    copy count endswith find get index isalnum isalpha isdigit islower isspace isupper items join keys ljust lower
    lstrip partition replace rfind rjust rpartition rsplit rstrip split splitlines startswith strip upper values zfill
    bit_length
""".split())
FREE_VALUES = {"count", "index", "title", "find", "get", "join", "lower", "upper", "split", "strip", "copy", "add"}
BANNED_VALUES = {"args", "encode", "format", "sort"}
UNDERSCORED = {"__init__", "__eq__", "__repr__", "__str__", "__len__"}
UNDERSCORED_NAMES = {"__all__", "__version__", "__name__"}
NOWHERE = set("register mro elements open input version_info with_traceback add_note".split())
FRAMES = re.compile(r"(f|tb|co|gi|cr|ag)_[a-z]+\Z")
NOT_AS_NAMES = set("""
    attrgetter breakpoint builtins compile copyright credits delattr dir eval exec exit gc getattr globals hasattr help
    id importlib license locals methodcaller os quit setattr super type vars
""".split())
WORDS = set("""
    type typing typing_extensions enum Enum IntEnum StrEnum Flag IntFlag Generic Protocol ABC ABCMeta namedtuple
    NamedTuple TypedDict TYPE_CHECKING abstractmethod
""".split())
WITHIN_WORDS = re.compile("dataclass|overload|contextmanager")
FILE_NAMES = WORDS | {"test", "tests", "testing", "site", "conftest", "sitecustomize", "usercustomize"}
STATEMENTS = (
    ast.Assign, ast.AugAssign, ast.If, ast.While, ast.For, ast.Return, ast.Break, ast.Continue, ast.Pass, ast.Raise,
    ast.Try, ast.Expr, ast.FunctionDef, ast.ClassDef, ast.ImportFrom,
)
EXPRESSIONS = (
    ast.BinOp, ast.UnaryOp, ast.BoolOp, ast.Compare, ast.IfExp, ast.Call, ast.Attribute, ast.Subscript, ast.Slice,
    ast.List, ast.Tuple, ast.Dict, ast.Set, ast.ListComp, ast.Constant, ast.Name, ast.Lambda, ast.JoinedStr,
    ast.FormattedValue,
)
KEYWORDS = {"sorted": {"key", "reverse"}, "min": {"key", "default"}, "max": {"key", "default"}, "sum": {"start"},
            "enumerate": {"start"}, "zip": {"strict"}}
KEYS = {"len", "int", "str", "abs", "sum", "min", "max", "tuple"}
WALKED = {"zip", "enumerate", "reversed", "range", "items", "keys", "values"}
WALKERS = {"list", "tuple", "dict", "sorted", "sum", "any", "all", "enumerate", "min", "max", "join"}
READERS = {"len", "list", "dict", "tuple", "sorted", "min", "max", "sum", "any", "all", "enumerate", "zip"}


class File:

    def __init__(self, path, text):
        self.path, self.text = path, text
        self.name = path.rsplit("/", 1)[-1]
        self.module = path[:-3].replace("/", ".").removesuffix(".__init__")
        self.tree = ast.parse(text)
        self.nodes = list(ast.walk(self.tree))
        self.parents = {child: node for node in self.nodes for child in ast.iter_child_nodes(node)}
        self.top = {}
        for statement in self.tree.body:
            for name in bound_by(statement):
                self.top.setdefault(name, statement)
        self.imports = [each for each in self.nodes if isinstance(each, ast.ImportFrom)]
        self.defs = [each for each in self.nodes if isinstance(each, ast.FunctionDef)]
        self.classes = [each for each in self.nodes if isinstance(each, ast.ClassDef)]
        self.calls = [each for each in self.nodes if isinstance(each, ast.Call)]

    def around(self, node):
        """The nodes that the node stands in, the nearest first."""
        while node in self.parents:
            node = self.parents[node]
            yield node

    def is_in_function(self, node):
        return any(isinstance(each, (ast.FunctionDef, ast.Lambda)) for each in self.around(node))

    def is_called(self, node):
        parent = self.parents[node]
        return isinstance(parent, ast.Call) and parent.func is node

    def is_key(self, node):
        parent = self.parents[node]
        return isinstance(parent, ast.keyword) and parent.arg == "key"


class Package:

    def __init__(self, sources):
        self.files = [File(path, text) for path, text in sorted(sources.items()) if path.endswith(".py")]
        self.classes = {each.name: each for file in self.files for each in file.classes}
        self.methods = {each.name for node in self.classes.values() for each in node.body
                        if isinstance(each, ast.FunctionDef)}
        self.values = {each.attr for file in self.files for each in file.nodes
                       if isinstance(each, ast.Attribute) and isinstance(each.ctx, ast.Store)}


def bound_by(statement):
    if isinstance(statement, ast.ImportFrom):
        return [alias.asname or alias.name for alias in statement.names]
    if isinstance(statement, (ast.FunctionDef, ast.ClassDef)):
        return [statement.name]
    if isinstance(statement, ast.Assign):
        return [each.id for target in statement.targets for each in ast.walk(target) if isinstance(each, ast.Name)]
    return []


def called(call):
    return call.func.attr if isinstance(call.func, ast.Attribute) else getattr(call.func, "id", "")


def is_plain(value, defs=()):
    if isinstance(value, ast.Constant):
        return value.value is None or type(value.value) in (int, str, bool)
    if isinstance(value, ast.UnaryOp):
        return isinstance(value.op, ast.USub) and is_plain(value.operand)
    if isinstance(value, (ast.List, ast.Tuple)):
        return all(is_plain(each, defs) for each in value.elts)
    if isinstance(value, ast.Dict):
        return all(each is not None and is_plain(each, defs) for each in value.keys + value.values)
    return isinstance(value, ast.Name) and value.id in defs


def is_docstring(file, node):
    first = file.tree.body[0]
    return node is first and isinstance(node.value, ast.Constant) and isinstance(node.value.value, str)


def faults(sources):
    """Rows such as `L7 sidings/a.py:3 words` for files by their paths; a path that ends in / is a folder's."""
    package = Package(sources)
    found = [f"{rule} {path} {words}" for rule, path, words in folder_faults(sources)]
    for file in package.files:
        for check in CHECKS:
            for rule, node, words in check(file, package):
                found.append(f"{rule} {file.path}:{getattr(node, 'lineno', node)} {words}")
    found.extend(f"L16 {words}" for words in circles(drawn_from(package)))
    found.extend(f"L11 {words}" for words in circles(calling(package)))
    return found


def folder_faults(sources):
    folders = {path.rsplit("/", 1)[0] for path in sources}
    for path in sources:
        if not re.match(PACKAGE + r"(/[A-Za-z0-9_]+)+\.py\Z", path):
            yield "L1", path, "is no .py file with a plain name"
        stem = path.rsplit("/", 1)[-1].removesuffix(".py")
        if path != path.lower() or stem in FILE_NAMES or stem.startswith("test_") or stem in dir(builtins):
            yield "L14", path, "is a name that is not used"
        if stem == "__main__" and path.count("/") > 1:
            yield "L14", path, "doesn't lie at the top"
    for folder in folders:
        if folder + "/__init__.py" not in sources:
            yield "L14", folder, "has no __init__.py"


def circles(arrows):
    """What is left when all that leads to nothing more is taken away time and again."""
    while True:
        ends = [name for name in arrows if not arrows[name] & set(arrows)]
        if not ends:
            return [f"{name} comes back to itself" for name in arrows]
        arrows = {name: arrows[name] for name in arrows if name not in ends}


def drawn_from(package):
    """For each module those that it draws from; an __init__ above one counts too, but not its own."""
    arrows = {}
    for file in package.files:
        drawn = {each.module or "" for each in file.imports}
        above = {each.rsplit(".", count)[0] for each in drawn for count in range(1, each.count(".") + 1)}
        arrows[file.module] = drawn | {each for each in above if not file.module.startswith(each + ".")}
    return arrows


def calling(package):
    """For each def of the package those that it calls, by their bare names."""
    names = {each.name for file in package.files for each in file.defs} - UNDERSCORED
    arrows = {name: set() for name in names}
    for file in package.files:
        for node in file.defs:
            within = {called(each) for each in ast.walk(node) if isinstance(each, ast.Call)}
            arrows.setdefault(node.name, set()).update(within & names)
    return arrows


def check_text(file, package):
    rows = file.text.split("\n")
    if len(rows) > 401:
        yield "L10", 1, "a file of more than 400 rows"
    for number, row in enumerate(rows, 1):
        if len(row) > 120 or "\t" in row:
            yield "L10", number, "a row too long or with a tab"
        if not all(" " <= sign <= "~" for sign in row):
            yield "L14", number, "another sign"
        if WORDS & set(re.findall(r"\w+", row)) or WITHIN_WORDS.search(row):
            yield "L17", number, "a word that is not used"
    for node in file.defs:
        if node.end_lineno - node.lineno + 1 > 40:
            yield "L10", node, "a function of more than 40 rows"


def check_tokens(file, package):
    for token in tokenize.generate_tokens(io.StringIO(file.text).readline):
        if token.type == tokenize.NUMBER and len(token.string) > 900:
            yield "L27", token.start[0], "a number of more than 900 digits"
        is_text = token.type == tokenize.STRING or tokenize.tok_name[token.type].startswith("FSTRING")
        if is_text and re.search(r"\\[^nt\\'\"]", token.string.replace("\\\\", "")):
            yield "L27", token.start[0], "another escape"


def check_imports(file, package):
    defined = {each.module: {name for name, node in each.top.items() if not isinstance(node, ast.ImportFrom)}
               for each in package.files}
    stems = {each.name[:-3] for each in package.files}
    for node in file.nodes:
        if isinstance(node, ast.Import) and not (file.name == "__main__.py" and ast.unparse(node) == "import sys"):
            yield "L16", node, "a row that is no from .. import"
    for node in file.imports:
        if node not in file.tree.body:
            yield "L2", node, "an import that is not at the top"
        if node.level or not (node.module or "").startswith(PACKAGE + ".") or node.module.endswith("__main__"):
            yield "L2", node, "an import from elsewhere"
        for alias in node.names:
            if alias.name == "*" or alias.asname:
                yield "L2", node, "an import of all or under another name"
            elif alias.name not in defined.get(node.module, ()):
                yield "L16", node, "an import from a file that doesn't define it"
    if file.name == "__init__.py":
        for name in set(file.top) & stems:
            yield "L16", file.top[name], "a name that a file has"


def check_top(file, package):
    defs, bound = [], []
    for statement in file.tree.body:
        bound.extend(bound_by(statement))
        if isinstance(statement, ast.FunctionDef):
            defs.append(statement.name)
        elif isinstance(statement, ast.Assign):
            if not isinstance(statement.targets[0], ast.Name) or not is_plain(statement.value, defs):
                yield "L3", statement, "a name without a plain value"
            if any(isinstance(each, (ast.List, ast.Dict)) for each in ast.walk(statement.value)
                   if each is not statement.value):
                yield "L15", statement, "a list or dict within"
        elif isinstance(statement, ast.Expr):
            if not is_docstring(file, statement):
                yield "L3", statement, "something is done"
        elif not isinstance(statement, (ast.ClassDef, ast.ImportFrom)):
            yield "L3", statement, "another statement"
    for name in bound:
        if bound.count(name) > 1:
            yield "L15", file.top[name], f"{name} is bound twice"


def check_kept(file, package):
    kept = {name for name, node in file.top.items()
            if isinstance(node, ast.Assign) and isinstance(node.value, (ast.List, ast.Dict))}
    for node in file.nodes:
        if isinstance(node, ast.ClassDef) and node not in file.tree.body:
            yield "L15", node, "a class that is not at the top"
        if isinstance(node, ast.Name) and node.id in kept and isinstance(node.ctx, ast.Load):
            if not is_only_read(file, node):
                yield "L15", node, f"{node.id} is not only read"
    taken = set(package.classes) & set(file.top) | {name for each in file.imports for name in bound_by(each)}
    for node, name in local_names(file):
        if name in taken or name in dir(builtins):
            yield "L15", node, f"{name} has another meaning"


def is_only_read(file, node):
    parent = file.parents[node]
    if isinstance(parent, ast.Subscript):
        return isinstance(parent.ctx, ast.Load)
    if isinstance(parent, ast.Attribute):
        return parent.attr in METHODS - CHANGES and file.is_called(parent)
    if isinstance(parent, ast.Call):
        return called(parent) in READERS
    return isinstance(parent, (ast.For, ast.comprehension, ast.Compare))


def local_names(file):
    for node in file.nodes:
        if isinstance(node, ast.arg):
            yield node, node.arg
        elif isinstance(node, ast.Name) and isinstance(node.ctx, ast.Store) and file.is_in_function(node):
            yield node, node.id
        elif isinstance(node, ast.ExceptHandler) and node.name:
            yield node, node.name
        elif isinstance(node, ast.FunctionDef) and not isinstance(file.parents[node], ast.ClassDef):
            if node not in file.tree.body:
                yield node, node.name


def check_functions(file, package):
    for node in file.nodes:
        if isinstance(node, (ast.FunctionDef, ast.Lambda)):
            given = node.args
            if given.vararg or given.kwarg or given.kwonlyargs or given.posonlyargs:
                yield "L4", node, "parameters that are not plain"
            if not all(is_plain(each) for each in given.defaults):
                yield "L4", node, "a default that is not plain"
        if isinstance(node, ast.FunctionDef) and node.decorator_list:
            yield "L4", node, "a decorator"
        if isinstance(node, ast.AnnAssign) or getattr(node, "annotation", None) or getattr(node, "returns", None):
            yield "L21", node, "an annotation"
        if isinstance(node, ast.Lambda):
            for other in file.nodes:
                if isinstance(other, ast.Lambda) and other is not node and other.lineno == node.lineno:
                    if ast.dump(other.args) == ast.dump(node.args):
                        yield "L13", node, "two lambdas alike on one row"


def check_classes(file, package):
    for node in file.classes:
        if node.decorator_list or node.keywords or len(node.bases) > 1:
            yield "L5", node, "a decorator, a keyword or several bases"
        for base in node.bases:
            name = getattr(base, "id", "")
            if name in ("StopIteration", "AttributeError"):
                yield "L18", node, "an error class under another one than told"
            elif name not in ERRORS and name not in package.classes:
                yield "L5", node, "another base"
        names = [each.name for each in node.body if isinstance(each, ast.FunctionDef)]
        if len(names) > len(set(names)):
            yield "L18", node, "a method that stands twice"
        for name in names:
            if name.startswith("__") and name not in UNDERSCORED:
                yield "L5", node, f"a method {name}"
        if not all(isinstance(each, (ast.FunctionDef, ast.Pass)) for each in node.body):
            yield "L5", node, "something else than methods"
    for name in package.methods & package.values:
        yield "L18", 1, f"{name} is a method and a value"


def check_use_of_classes(file, package):
    for node in file.nodes:
        if isinstance(node, ast.Name) and node.id in package.classes and isinstance(node.ctx, ast.Load):
            if not is_class_well_used(file, node):
                yield "L18", node, "a class is kept, handed on or shown"
        if isinstance(node, ast.Attribute) and isinstance(node.ctx, ast.Store):
            root = node.value
            while isinstance(root, (ast.Attribute, ast.Subscript)):
                root = root.value
            if not isinstance(root, ast.Name) or root.id in file.top or not file.is_in_function(node):
                yield "L18", node, "a value not given through a local name"


def is_class_well_used(file, node):
    parent = file.parents[node]
    if isinstance(parent, ast.Tuple):
        node, parent = parent, file.parents[parent]
    if isinstance(parent, ast.Call):
        return parent.func is node or called(parent) == "isinstance" and parent.args[1] is node
    if isinstance(parent, ast.Attribute):
        return parent.attr == "__init__" and file.is_called(parent)
    return isinstance(parent, (ast.ClassDef, ast.ExceptHandler, ast.Raise))


def check_statements(file, package):
    for node in file.nodes:
        if isinstance(node, ast.stmt) and not isinstance(node, STATEMENTS) and not isinstance(node, ast.Import):
            yield "L6", node, "another statement"
        if isinstance(node, ast.Assign):
            if len(node.targets) > 1 or not isinstance(node.targets[0], (ast.Name, ast.Attribute, ast.Subscript)):
                yield "L6", node, "more than one target"
        if isinstance(node, (ast.For, ast.While)) and node.orelse:
            yield "L6", node, "an else behind a loop"
        if isinstance(node, ast.Try) and node.finalbody:
            yield "L6", node, "a finally"
        if isinstance(node, ast.ExceptHandler) and node.type is None:
            yield "L6", node, "an except of no named class"
        if isinstance(node, ast.Expr) and not isinstance(node.value, ast.Call) and not is_docstring(file, node):
            yield "L6", node, "no call by itself"


def check_expressions(file, package):
    for node in file.nodes:
        if isinstance(node, ast.expr) and not isinstance(node, EXPRESSIONS):
            yield "L7", node, "another expression"
        if isinstance(node, ast.Constant) and node.value is not None and type(node.value) not in (int, str, bool):
            yield "L7", node, "another value"
        if isinstance(node, (ast.BinOp, ast.AugAssign)) and isinstance(node.op, (ast.Div, ast.MatMult)):
            yield "L7", node, "another operator"
        if isinstance(node, ast.ListComp):
            if len(node.generators) > 1 or len(node.generators[0].ifs) > 1 or node.generators[0].is_async:
                yield "L7", node, "more than one for and one if"
        if isinstance(node, ast.FormattedValue):
            if not isinstance(node.value, ast.Name) or node.format_spec or node.conversion not in (-1, ord("r")):
                yield "L7", node, "no plain name in braces"
        if isinstance(node, ast.Compare):
            for operator, left, right in zip(node.ops, [node.left] + node.comparators, node.comparators):
                sides = {repr(getattr(each, "value", each)) for each in (left, right)}
                if isinstance(operator, (ast.Is, ast.IsNot)) and not sides & {"None", "True", "False"}:
                    yield "L20", node, "is beside another value"


def check_names(file, package):
    is_main = file.name == "__main__.py"
    for node, name in all_names(file):
        if name not in UNDERSCORED | UNDERSCORED_NAMES and not PLAIN_NAME.match(name):
            yield ("L8" if name.startswith("__") else "L12"), node, f"the name {name}"
        if name in NOWHERE or FRAMES.match(name):
            yield "L17", node, f"the name {name}"
        if isinstance(node, ast.Attribute) and name in ("format", "format_map", "mro"):
            yield "L8", node, f"the attribute {name}"
    for node in file.nodes:
        if isinstance(node, ast.Name):
            if node.id in NOT_AS_NAMES or (node.id in ("sys", "__name__") and not is_main):
                yield "L17", node, f"the name {node.id}"
            if node.id == "chr":
                yield "L27", node, "chr"
            elif node.id == "print" and not is_main:
                yield "L9", node, "print"
            elif node.id in dir(builtins) and node.id not in CALLED | ERRORS | {"print"} | UNDERSCORED_NAMES:
                yield "L8", node, f"the name {node.id}"


def all_names(file):
    for node in file.nodes:
        if isinstance(node, ast.Name):
            yield node, node.id
        elif isinstance(node, ast.Attribute):
            yield node, node.attr
        elif isinstance(node, (ast.arg, ast.keyword)) and node.arg:
            yield node, node.arg
        elif isinstance(node, (ast.FunctionDef, ast.ClassDef)):
            yield node, node.name
        elif isinstance(node, ast.ExceptHandler) and node.name:
            yield node, node.name


def check_errors(file, package):
    own = {name for name in package.classes if is_error(name, package)}
    for node in file.nodes:
        if isinstance(node, ast.Try):
            for handler in node.handlers:
                taken = handler.type.elts if isinstance(handler.type, ast.Tuple) else [handler.type]
                for name in [getattr(each, "id", "") for each in taken]:
                    if name in ("ValueError", "LookupError", "IndexError"):
                        if not is_narrow(node, name):
                            yield "L19", handler, f"{name} is taken round more than told"
                    elif name not in own | {"KeyError", "ZeroDivisionError", "StopIteration"}:
                        yield "L19", handler, f"{name} is taken"
        if isinstance(node, ast.Raise):
            if not isinstance(node.exc, ast.Call) or called(node.exc) not in own | ERRORS:
                yield "L19", node, "an error that is not made on the spot"
            caught = {each.name for each in file.around(node) if isinstance(each, ast.ExceptHandler)} | {None}
            if node.cause and getattr(node.cause, "id", getattr(node.cause, "value", "")) not in caught:
                yield "L19", node, "an error from another one than the handler's own"


def is_error(name, package):
    while name in package.classes and package.classes[name].bases:
        name = getattr(package.classes[name].bases[0], "id", "")
    return name in ERRORS


def is_narrow(node, name):
    if len(node.body) > 1 or node.orelse:
        return False
    within = list(ast.walk(node.body[0]))
    callers = {"int", "str", "index", "remove"} if name != "IndexError" else set()
    hidden = (ast.JoinedStr, ast.Mult, ast.Pow, ast.Mod, ast.LShift, ast.RShift, ast.Slice, ast.Lambda)
    is_there = any(isinstance(each, ast.Call) or name == "IndexError" and isinstance(each, ast.Subscript)
                   for each in within)
    return is_there and not any(isinstance(each, hidden) or isinstance(each, ast.Call) and called(each) not in callers
                                for each in within)


def check_pythons_own(file, package):
    for node in file.nodes:
        if isinstance(node, ast.Name) and node.id in CALLED and isinstance(node.ctx, ast.Load):
            if not file.is_called(node) and not (node.id in KEYS and file.is_key(node)):
                around = list(file.around(node))
                beside = [each for each in around[:2] if isinstance(each, ast.Call) and called(each) == "isinstance"]
                if node.id not in KINDS or not beside:
                    yield "L22", node, f"{node.id} is kept as a value"
    for call in file.calls:
        if called(call) == "isinstance":
            kinds = call.args[1].elts if isinstance(call.args[1], ast.Tuple) else [call.args[1]]
            if not all(getattr(each, "id", "") in KINDS | ERRORS | set(package.classes) for each in kinds):
                yield "L22", call, "isinstance beside another value"
        for keyword in call.keywords:
            if called(call) in CALLED | METHODS | ERRORS and keyword.arg not in KEYWORDS.get(called(call), ()):
                yield "L22", call, "another keyword"
            if keyword.arg in ("reverse", "strict") and not isinstance(keyword.value, ast.Constant):
                yield "L22", call, "a keyword without a written truth"


def check_walks(file, package):
    for call in file.calls:
        if called(call) in WALKED and not is_walked_at_once(file, call):
            yield "L23", call, f"{called(call)} is kept"
    for loop in file.nodes:
        if isinstance(loop, ast.For):
            walked = walked_values(loop.iter)
            for node in [each for statement in loop.body for each in ast.walk(statement)]:
                if changed_by(node) in walked:
                    yield "L23", node, "what the loop walks is changed in it"


def is_walked_at_once(file, call):
    parent = file.parents[call]
    if isinstance(parent, (ast.For, ast.comprehension)):
        return parent.iter is call
    if not isinstance(parent, ast.Call) or parent.func is call:
        return False
    if called(parent) in ("min", "max"):
        return len(parent.args) == 1
    return called(parent) == "zip" or called(parent) in WALKERS and parent.args[0] is call


def walked_values(node):
    if isinstance(node, ast.Call) and called(node) in ("enumerate", "zip", "reversed"):
        return {each for argument in node.args for each in walked_values(argument)}
    if isinstance(node, ast.Call) and called(node) in ("items", "keys", "values"):
        return {ast.unparse(node.func.value)}
    return {ast.unparse(node)} if isinstance(node, (ast.Name, ast.Attribute, ast.Subscript)) else set()


def changed_by(node):
    if isinstance(node, ast.Call) and isinstance(node.func, ast.Attribute) and node.func.attr in CHANGES:
        return ast.unparse(node.func.value)
    if isinstance(node, ast.Subscript) and isinstance(node.ctx, ast.Store):
        return ast.unparse(node.value)
    if isinstance(node, (ast.Assign, ast.AugAssign)):
        return ast.unparse(node.targets[0] if isinstance(node, ast.Assign) else node.target)
    return None


def check_sets(file, package):
    for node in file.nodes:
        if isinstance(node, ast.Set):
            if not file.is_in_function(node):
                yield "L7", node, "a set at a file's top"
            numbers = [each for each in node.elts if isinstance(each, ast.Constant) and type(each.value) is int]
            parent = file.parents[node]
            if len(numbers) > 2 and not (isinstance(parent, ast.Compare) and isinstance(parent.ops[0], ast.In)):
                yield "L13", node, "a set of three numbers or more"
        if is_set(node) and not is_set_well_used(file, node):
            yield "L24", node, "a set that is kept or walked"


def is_set(node):
    return isinstance(node, ast.Set) or isinstance(node, ast.Call) and called(node) in ("set", "frozenset")


def is_set_well_used(file, node):
    parent = file.parents[node]
    if isinstance(parent, ast.BinOp) and isinstance(parent.op, (ast.Sub, ast.BitAnd, ast.BitOr, ast.BitXor)):
        return is_set_well_used(file, parent)
    if isinstance(parent, ast.Compare):
        return isinstance(parent.ops[0], (ast.In, ast.NotIn, ast.Eq, ast.NotEq))
    return isinstance(parent, ast.Call) and called(parent) in ("sorted", "len") and not parent.keywords


def check_methods(file, package):
    python_own = {name for kind in (str, int, list, dict, set, bytes, tuple) for name in dir(kind)} | BANNED_VALUES
    for name in package.methods - UNDERSCORED:
        if name in python_own and name not in METHODS | {"add", "discard"}:
            yield "L26", 1, f"a method {name}"
    for name in package.values:
        if name in python_own and name not in FREE_VALUES:
            yield "L26", 1, f"a value {name}"
    for node in file.nodes:
        if isinstance(node, ast.Attribute):
            if node.attr not in package.methods | package.values | METHODS | {"__init__"}:
                yield "L25", node, f"the method {node.attr}"
            elif node.attr in package.methods | METHODS - package.values:
                if not file.is_called(node) and not file.is_key(node):
                    yield "L25", node, f"the method {node.attr} is handed on"


def check_numbers_and_texts(file, package):
    for node in file.nodes:
        if isinstance(node, ast.BinOp) and isinstance(node.op, ast.Pow):
            exponent = getattr(node.right, "value", None)
            if type(exponent) is not int or exponent > 64:
                yield "L27", node, "an exponent that is not written or too large"
        if isinstance(node, ast.AugAssign) and isinstance(node.op, ast.Pow):
            yield "L27", node, "an exponent that is not written"
        if isinstance(node, ast.Constant) and isinstance(node.value, str) and "%" in node.value:
            yield "L27", node, "a sign that stands in no text"


def check_underscored_methods(file, package):
    for node in file.defs:
        if node.name == "__init__":
            if any(isinstance(each, ast.Return) and each.value for each in ast.walk(node)):
                yield "L28", node, "__init__ gives back something"
        elif node.name in UNDERSCORED:
            if any(changed_by(each) is not None for each in ast.walk(node) if not is_local(each)):
                yield "L28", node, f"{node.name} changes something"
            for each in ast.walk(node):
                if isinstance(each, ast.Return) and not is_fit(node.name, each.value):
                    yield "L28", each, f"{node.name} gives back something else"


def is_local(node):
    return isinstance(node, ast.Assign) and isinstance(node.targets[0], ast.Name)


def is_fit(name, value):
    if name == "__eq__":
        return True
    calls = {"__len__": {"len"}}.get(name, {"str", "repr", "join"})
    if isinstance(value, ast.Call):
        return called(value) in calls
    if isinstance(value, ast.Constant):
        return type(value.value) is (int if name == "__len__" else str)
    return isinstance(value, ast.JoinedStr) and name != "__len__"


CHECKS = (
    check_text, check_tokens, check_imports, check_top, check_kept, check_functions, check_classes,
    check_use_of_classes, check_statements, check_expressions, check_names, check_errors, check_pythons_own,
    check_walks, check_sets, check_methods, check_numbers_and_texts, check_underscored_methods,
)
