"""Holds the package to the rules of its language that can be read off its text and its tree."""

import ast
import builtins
import pathlib
import re
import unittest

TOP = pathlib.Path(__file__).resolve().parent.parent
PACKAGE = TOP / "sidings"

OWN_NAMES = set("""
    len range enumerate zip min max sum abs sorted reversed int str bool list tuple dict set frozenset isinstance ord
    repr any all divmod Exception ValueError TypeError KeyError IndexError LookupError ZeroDivisionError ArithmeticError
    OverflowError RuntimeError NotImplementedError AttributeError StopIteration
""".split())
OWN_METHODS = set("""
    append clear copy count endswith extend find get index insert isalnum isalpha isdigit islower isspace isupper items
    join keys ljust lower lstrip partition pop remove replace reverse rfind rjust rpartition rsplit rstrip setdefault
    split splitlines startswith strip update upper values zfill bit_length
""".split())
TWO_UNDERSCORES = {"__init__", "__eq__", "__repr__", "__str__", "__len__"}
BANNED_NAMES = set("""
    register mro elements open input version_info with_traceback add_note attrgetter breakpoint builtins compile
    copyright credits delattr dir eval exec exit gc getattr globals hasattr help id importlib license locals
    methodcaller os quit setattr super type vars sys format format_map
""".split())
BANNED_WORDS = re.compile(
    r"\b(type|typing|typing_extensions|enum|Enum|IntEnum|StrEnum|Flag|IntFlag|Generic|Protocol|ABC|ABCMeta|namedtuple"
    r"|NamedTuple|TypedDict|TYPE_CHECKING|abstractmethod)\b|dataclass|overload|contextmanager"
)
STATEMENTS = (
    ast.Assign, ast.AugAssign, ast.If, ast.While, ast.For, ast.Return, ast.Break, ast.Continue, ast.Pass, ast.Raise,
    ast.Try, ast.Expr, ast.FunctionDef, ast.ClassDef, ast.ImportFrom,
)
EXPRESSIONS = (
    ast.BinOp, ast.UnaryOp, ast.BoolOp, ast.Compare, ast.IfExp, ast.Call, ast.Attribute, ast.Subscript, ast.Slice,
    ast.List, ast.Tuple, ast.Dict, ast.Set, ast.ListComp, ast.Constant, ast.Name, ast.Lambda, ast.JoinedStr,
    ast.FormattedValue,
)
WALKED_AT_ONCE = {"zip", "enumerate", "reversed", "range", "items", "keys", "values"}
WALKERS = {"list", "tuple", "dict", "sorted", "sum", "any", "all", "enumerate", "zip", "min", "max", "join"}
RESERVED = {"__init__", "__main__", "test", "tests", "testing", "site", "conftest", "sitecustomize", "usercustomize"}


def files():
    return sorted(PACKAGE.rglob("*.py"))


def trees():
    return [(path.name, ast.parse(path.read_text(encoding="utf-8"))) for path in files()]


def nodes(kind):
    return [(f"{name}:{node.lineno}", node) for name, tree in trees() for node in ast.walk(tree)
            if isinstance(node, kind)]


def called(call):
    return call.func.attr if isinstance(call.func, ast.Attribute) else getattr(call.func, "id", "")


def is_docstring(tree, statement):
    return statement is tree.body[0] and isinstance(statement.value, ast.Constant)


def own_attributes():
    """The names of the package's own methods and of the values of its objects."""
    methods = {each.name for _, node in nodes(ast.ClassDef) for each in node.body if isinstance(each, ast.FunctionDef)}
    stored = {node.attr for _, node in nodes(ast.Attribute) if isinstance(node.ctx, ast.Store)}
    return methods, stored


class Files(unittest.TestCase):

    def test_the_folder(self):
        held = [path for path in PACKAGE.rglob("*") if "__pycache__" not in path.parts]
        self.assertEqual([path.name for path in held if path.suffix != ".py"], [])
        self.assertIn(PACKAGE / "__init__.py", held)
        for path in files():
            self.assertRegex(path.name, r"^[a-z0-9_]+\.py$")
            self.assertFalse(path.stem.startswith("test_"))
            if path.stem != "__init__":
                self.assertNotIn(path.stem, RESERVED | set(dir(builtins)))

    def test_signs_and_sizes(self):
        for path in files():
            text = path.read_bytes().decode("ascii")
            self.assertEqual([sign for sign in text if sign != "\n" and not " " <= sign <= "~"], [], path.name)
            rows = text.split("\n")
            self.assertLessEqual(len(rows), 400, path.name)
            self.assertLessEqual(max(len(row) for row in rows), 120, path.name)
            self.assertIsNone(BANNED_WORDS.search(text), path.name)

    def test_functions_are_short(self):
        for place, node in nodes(ast.FunctionDef):
            self.assertLessEqual(node.end_lineno - node.lineno + 1, 40, place)


class TheTop(unittest.TestCase):

    def test_imports(self):
        defined = {f"sidings.{path.stem}": {each.name for each in ast.parse(path.read_text()).body
                                            if isinstance(each, (ast.FunctionDef, ast.ClassDef))} for path in files()}
        for name, tree in trees():
            for node in ast.walk(tree):
                self.assertNotIsInstance(node, ast.Import)
                if isinstance(node, ast.ImportFrom):
                    self.assertIn(node, tree.body, name)
                    self.assertEqual(node.level, 0, name)
                    for alias in node.names:
                        self.assertIn(alias.name, defined[node.module], name)
                        self.assertIsNone(alias.asname, name)

    def test_no_two_files_draw_from_one_another(self):
        drawn = {name[:-3]: {each.module.split(".")[-1] for each in tree.body if isinstance(each, ast.ImportFrom)}
                 for name, tree in trees()}
        while drawn:
            ready = [name for name in drawn if not drawn[name] & set(drawn)]
            self.assertTrue(ready, drawn)
            drawn = {name: drawn[name] for name in drawn if name not in ready}

    def test_what_stands_there(self):
        for name, tree in trees():
            bound = []
            for statement in tree.body:
                if isinstance(statement, ast.Expr):
                    self.assertTrue(is_docstring(tree, statement), name)
                elif isinstance(statement, ast.Assign):
                    ast.literal_eval(statement.value)
                    bound.append(statement.targets[0].id)
                elif isinstance(statement, ast.ImportFrom):
                    bound.extend(alias.name for alias in statement.names)
                else:
                    self.assertIsInstance(statement, (ast.FunctionDef, ast.ClassDef), name)
                    bound.append(statement.name)
            self.assertEqual(len(bound), len(set(bound)), name)


class Statements(unittest.TestCase):

    def test_the_kinds_of_statements(self):
        for place, node in nodes(ast.stmt):
            self.assertIsInstance(node, STATEMENTS, place)
            if isinstance(node, ast.Assign):
                self.assertEqual(len(node.targets), 1, place)
            if isinstance(node, (ast.For, ast.While)):
                self.assertEqual(node.orelse, [], place)
            if isinstance(node, ast.Try):
                self.assertEqual(node.finalbody, [], place)

    def test_a_call_by_itself(self):
        for name, tree in trees():
            for node in ast.walk(tree):
                if isinstance(node, ast.Expr) and not (node in tree.body and is_docstring(tree, node)):
                    self.assertIsInstance(node.value, ast.Call, f"{name}:{node.lineno}")

    def test_functions(self):
        for place, node in nodes(ast.FunctionDef):
            self.assertEqual(node.decorator_list, [], place)
            self.assertEqual((node.args.vararg, node.args.kwarg), (None, None), place)
            self.assertEqual((node.args.kwonlyargs, node.args.posonlyargs), ([], []), place)

    def test_classes(self):
        methods, stored = own_attributes()
        self.assertEqual(methods & stored, set())
        for place, node in nodes(ast.ClassDef):
            self.assertEqual((node.decorator_list, node.keywords), ([], []), place)
            self.assertLessEqual(len(node.bases), 1, place)
            for each in node.body:
                self.assertIsInstance(each, (ast.FunctionDef, ast.Pass), place)

    def test_errors(self):
        allowed = {"KeyError", "ZeroDivisionError", "StopIteration", "ValueError", "LookupError", "IndexError"}
        allowed |= {node.name for _, node in nodes(ast.ClassDef)}
        for place, node in nodes(ast.ExceptHandler):
            self.assertIn(getattr(node.type, "id", None), allowed, place)
        for place, node in nodes(ast.Raise):
            self.assertIsInstance(node.exc, ast.Call, place)


class Expressions(unittest.TestCase):

    def test_the_kinds_of_expressions(self):
        for place, node in nodes(ast.expr):
            self.assertIsInstance(node, EXPRESSIONS, place)
            if isinstance(node, ast.Constant):
                self.assertIsInstance(node.value, (int, str, type(None)), place)
            if isinstance(node, ast.BinOp):
                self.assertNotIsInstance(node.op, (ast.Div, ast.MatMult), place)
            if isinstance(node, ast.ListComp):
                self.assertEqual(len(node.generators), 1, place)
                self.assertLessEqual(len(node.generators[0].ifs), 1, place)
            if isinstance(node, ast.FormattedValue):
                self.assertIsInstance(node.value, ast.Name, place)
                self.assertIsNone(node.format_spec, place)

    def test_is_stands_beside_none_true_and_false(self):
        for place, node in nodes(ast.Compare):
            for operator, right in zip(node.ops, node.comparators):
                if isinstance(operator, (ast.Is, ast.IsNot)):
                    self.assertIn(repr(getattr(right, "value", right)), ("None", "True", "False"), place)

    def test_names(self):
        for place, node in nodes(ast.Name):
            self.assertRegex(node.id, r"^[A-Za-z][A-Za-z0-9_]*$", place)
            self.assertNotIn(node.id, BANNED_NAMES, place)
            if isinstance(node.ctx, ast.Store):
                self.assertNotIn(node.id, dir(builtins), place)
            elif node.id in dir(builtins):
                self.assertIn(node.id, OWN_NAMES, place)
        for place, node in nodes(ast.arg):
            self.assertRegex(node.arg, r"^[A-Za-z][A-Za-z0-9_]*$", place)
            self.assertNotIn(node.arg, dir(builtins), place)
            self.assertIsNone(node.annotation, place)

    def test_attributes(self):
        methods, stored = own_attributes()
        python_own = {name for kind in (str, int, list, dict, set, bytes, tuple) for name in dir(kind)}
        for name in methods | stored:
            self.assertTrue(name in TWO_UNDERSCORES or name not in python_own | BANNED_NAMES, name)
        for place, node in nodes(ast.Attribute):
            self.assertIn(node.attr, methods | stored | OWN_METHODS | TWO_UNDERSCORES, place)

    def test_some_are_walked_at_once(self):
        walked = []
        for _, node in nodes((ast.For, ast.ListComp)):
            walked.append(node.iter if isinstance(node, ast.For) else node.generators[0].iter)
        for _, node in nodes(ast.Call):
            if called(node) in WALKERS:
                walked.extend(node.args if called(node) == "zip" else node.args[:1])
        spots = {(each.lineno, each.col_offset, ast.dump(each)) for each in walked}
        for place, node in nodes(ast.Call):
            if called(node) in WALKED_AT_ONCE:
                self.assertIn((node.lineno, node.col_offset, ast.dump(node)), spots, place)

    def test_keywords(self):
        allowed = {"sorted": {"key", "reverse"}, "min": {"key", "default"}, "max": {"key", "default"},
                   "sum": {"start"}, "enumerate": {"start"}, "zip": {"strict"}}
        for place, node in nodes(ast.Call):
            if called(node) in OWN_NAMES | OWN_METHODS:
                self.assertLessEqual({each.arg for each in node.keywords}, allowed.get(called(node), set()), place)


if __name__ == "__main__":
    unittest.main()
