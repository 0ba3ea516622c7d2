"""Holds the package to the rules of its language, and the reader of the rules to what each of them forbids."""

import pathlib
import unittest

import rules

TOP = pathlib.Path(__file__).resolve().parent.parent
INIT = "sidings/__init__.py"

# For each rule, rows that break it.
BREAKING = {
    "L2": ["from os import path", "from . import errors", "from sidings.errors import *",
           "from sidings.errors import Bad as Worse", "def f():\n    from sidings.errors import Bad"],
    "L3": ["print(1)", "A = 1.5", "A = len([])", "A = [f]", "if True:\n    A = 1", "for a in [1]:\n    pass",
           "A = [each for each in [1]]", "'''One.'''\n'''Two.'''"],
    "L4": ["def f(*a):\n    pass", "def f(**a):\n    pass", "def f(a, *, b):\n    pass", "def f(a, /):\n    pass",
           "def f(a=len([])):\n    pass", "def g(a):\n    return a\n\n\n@g\ndef f():\n    pass"],
    "L5": ["class A(dict):\n    pass", "class A(ValueError, KeyError):\n    pass", "class A:\n    b = 1",
           "class A:\n    def __hash__(self):\n        return 1", "class A(metaclass=B):\n    pass",
           "def g(a):\n    return a\n\n\n@g\nclass A:\n    pass"],
    "L6": ["def f(a):\n    with a:\n        pass", "def f(a):\n    del a", "def f(a):\n    assert a",
           "def f():\n    a = b = 1", "def f(a):\n    b, c = a", "def f(a):\n    yield a", "def f():\n    global a",
           "def f(a):\n    for b in a:\n        pass\n    else:\n        pass", "def f(a):\n    a + 1",
           "def f(a):\n    try:\n        pass\n    finally:\n        pass", "async def f():\n    pass",
           "def f(a):\n    match a:\n        case 1:\n            pass", "def f():\n    '''Words.'''",
           "def f():\n    try:\n        pass\n    except:\n        pass"],
    "L7": ["A = 1.5", "def f(a):\n    return a / 2", "A = b''", "def f(a):\n    return {b for b in a}",
           "def f(a):\n    return {b: 1 for b in a}", "def f(a):\n    return any(b for b in a)", "A = {1}",
           "def f(a):\n    return (b := a)", "def f(a):\n    return [*a]", "def f(a):\n    return f'{a.b}'",
           "def f(a):\n    return f'{a:>3}'", "def f(a):\n    return f'{a!s}'", "def f(a):\n    a /= 2",
           "def f(a):\n    return [c for b in a for c in b]", "def f(a):\n    return [b for b in a if b if b > 1]"],
    "L8": ["def f(a):\n    return iter(a)", "def f(a):\n    return hash(a)", "def f(a):\n    return a.format(1)",
           "def f(a):\n    return a.__class__", "def f():\n    return float"],
    "L9": ["def f(a):\n    print(a)"],
    "L10": ["def f():\n" + "    pass\n" * 40, "# a\n" * 401, "# " + "a" * 119, "def f():\n\tpass"],
    "L11": ["def f(a):\n    return f(a)", "def f(a):\n    return g(a)\n\n\ndef g(a):\n    return f(a)"],
    "L12": ["def f():\n    _ = 1", "def f(_a):\n    pass", "def f(a):\n    a._b = 1", "def _f():\n    pass"],
    "L13": ["def f():\n    return {1, 2, 3} == set([])", "def f():\n    return [lambda a: 1, lambda a: 2]"],
    "L14": ["# \u00e4", "A = '\u2019'", "# \x7f", "# \r"],
    "L15": ["A = 1\nA = 2", "A = [[1]]", "A = {1: [2]}", "A = [1]\n\n\ndef f():\n    A.append(2)",
            "A = [1]\n\n\ndef f():\n    A[0] = 2", "A = [1]\n\n\ndef f():\n    return A",
            "A = [1]\n\n\ndef g(a):\n    return a\n\n\ndef f():\n    return g(A)", "def f(id):\n    return 1",
            "def f():\n    class A:\n        pass", "from sidings.errors import Bad\n\n\ndef f(Bad):\n    return 1",
            "class A:\n    pass\n\n\ndef f():\n    A = 1", "def f():\n    for next in [1]:\n        pass"],
    "L16": ["import sidings.errors", "import os", "from sidings.other import Bad", "from sidings.errors import missing",
            "from sidings import errors"],
    "L17": ["# the type", "# dataclasses", "A = 'enum'", "def f(a):\n    return a.f_back", "def f(a):\n    a.open = 1",
            "def f(a):\n    return vars(a)", "def f():\n    return sys", "def f():\n    return __name__"],
    "L18": ["class A:\n    pass\n\n\ndef f():\n    return [A]", "class A:\n    pass\n\n\ndef f():\n    A.b = 1",
            "class A:\n    pass\n\n\ndef f(a):\n    return A", "class A(StopIteration):\n    pass",
            "class A:\n    def b(self):\n        pass\n\n    def b(self):\n        pass",
            "class A:\n    def b(self):\n        self.b = 1", "class A(AttributeError):\n    pass"],
    "L19": ["def f():\n    try:\n        pass\n    except Exception:\n        pass",
            "def f():\n    try:\n        pass\n    except TypeError:\n        pass",
            "def f():\n    try:\n        f()\n    except ValueError:\n        pass",
            "def f(a):\n    try:\n        a = int(a)\n        a = 1\n    except ValueError:\n        pass",
            "def f(a):\n    try:\n        a = int(a) * 2\n    except (KeyError, ValueError):\n        pass",
            "def f(a):\n    try:\n        a = a[1:]\n    except IndexError:\n        pass",
            "def f(a):\n    raise a", "def f():\n    raise ValueError", "def f(a):\n    raise ValueError(1) from a"],
    "L20": ["def f(a, b):\n    return a is b", "def f(a):\n    return a is not 1"],
    "L21": ["def f(a: int):\n    return a", "def f() -> int:\n    return 1", "A: int = 1"],
    "L22": ["def f():\n    return len", "def f(a):\n    return isinstance(a, set)",
            "def f(a):\n    b = sorted\n    b(a)",
            "def f(a):\n    return sorted(a, key=repr)", "def f(a):\n    return int(a, base=2)",
            "def f(a, b):\n    return sorted(a, reverse=b)", "def f(a):\n    return a.split(sep=' ')",
            "def f(a, b):\n    return isinstance(a, b)"],
    "L23": ["def f(a):\n    b = zip(a, a)", "def f(a):\n    return enumerate(a)", "def f(a):\n    return a.items()",
            "def f(a):\n    return len(range(a))", "def f(a):\n    for b in reversed(range(a)):\n        pass",
            "def f(a):\n    for b in a:\n        a.append(b)",
            "def f(a):\n    for b, c in enumerate(a):\n        a[b] = 1",
            "def f(a):\n    for b in a.keys():\n        a.pop(b)", "def f(a):\n    return max(1, range(a))",
            "def f(self):\n    for b in self.c:\n        self.c.pop()"],
    "L24": ["def f(a):\n    b = set(a)", "def f(a):\n    return {1}", "def f(a):\n    for b in set(a):\n        pass",
            "def f(a):\n    return sorted(set(a), reverse=True)", "def f(a):\n    return list(set(a) | set(a))"],
    "L25": ["def f(a):\n    a.sort()", "def f(a):\n    return a.isdecimal()", "def f(a):\n    return a.append",
            "class A:\n    def b(self):\n        return self.b"],
    "L26": ["class A:\n    def sort(self):\n        pass", "class A:\n    def c(self):\n        self.items = 1",
            "class A:\n    def c(self):\n        self.args = 1", "class A:\n    def encode(self):\n        pass",
            "class A:\n    def c(self):\n        self.real = 1"],
    "L27": ["def f(a):\n    return 2 ** a", "def f(a):\n    return 2 ** 65", "def f(a):\n    a **= 2", "A = '%'",
            "A = '\\x41'", "A = '\\u0041'", "A = " + "1" * 901, "def f(a):\n    return chr(a)",
            "def f(a):\n    return f'\\x41{a}'"],
    "L28": ["class A:\n    def __init__(self):\n        return None",
            "class A:\n    def __len__(self):\n        return a",
            "class A:\n    def __repr__(self):\n        self.b = 1\n        return ''",
            "class A:\n    def __str__(self):\n        return 1", "class A:\n    def __eq__(self, a):\n        a += 1"],
}

WITHIN = '''"""Words."""

from sidings.errors import Bad, Worse

MOST = 9
LEAST = -9
NAMES = ("a", "b")
PAIRS = {"a": (1, 2), "b": (3, 4)}


class A:

    def __init__(self, held):
        self.held = list(held)

    def longest(self):
        return max([len(each) for each in self.held], default=0)

    def __len__(self):
        return len(self.held)


class B(A):
    pass


def f(a, b=1):
    if not isinstance(a, (int, str)) or a is None:
        raise Bad("no number")
    c = {}
    for place, each in enumerate(sorted(set(a)) if b else sorted(PAIRS, key=lambda value: PAIRS[value])):
        c[place] = each
    while b < MOST and "a" in PAIRS:
        b += 1
    try:
        c["d"] = g(b)
    except Worse as e:
        raise Bad("worse") from e
    return [c[place] for place in sorted(c) if place != 2 ** 7]


def g(text):
    try:
        number = int(text)
    except ValueError:
        return f"no {text!r} \\n"
    return "".join([str(each) for each in list(reversed([number, LEAST]))])


def h(b):
    return B(b).longest() + len(set(b) - set(NAMES))
'''


def package_sources():
    """The package's files by their paths; Python's own store of what it made of them is none of them."""
    held = [path for path in (TOP / "sidings").rglob("*") if "__pycache__" not in path.parts]
    return {path.relative_to(TOP).as_posix() + ("/" if path.is_dir() else ""): path for path in held}


def faults_of(text):
    errors = "class Bad(ValueError):\n    pass\n\n\nclass Worse(ValueError):\n    pass\n"
    return rules.faults({INIT: "", "sidings/errors.py": errors, "sidings/other.py": "", "sidings/sample.py": text})


def broken(found):
    return {row.split()[0] for row in found}


class ThePackage(unittest.TestCase):

    def test_nothing_but_files_lies_in_it(self):
        for path in package_sources():
            self.assertRegex(path, r"\.py\Z|/\Z")

    def test_the_files_of_the_interface_are_there(self):
        for name in ("__init__", "errors", "yards", "answers", "tracks", "texts"):
            self.assertIn(f"sidings/{name}.py", package_sources())

    def test_it_keeps_to_the_rules(self):
        files = {path: held.read_bytes().decode("ascii") for path, held in package_sources().items() if held.is_file()}
        self.assertEqual(rules.faults(files), [])

    def test_no_test_lies_in_it(self):
        self.assertEqual([path for path in package_sources() if "test" in path], [])


class TheReader(unittest.TestCase):

    def test_what_keeps_to_the_rules(self):
        self.assertEqual(faults_of(WITHIN), [])

    def test_what_breaks_each_rule(self):
        for rule, texts in BREAKING.items():
            for text in texts:
                with self.subTest(rule=rule, text=text[:80]):
                    self.assertIn(rule, broken(faults_of(text + "\n")))

    def test_files_and_folders(self):
        for rule, path in (("L1", "sidings/notes.txt"), ("L1", "sidings/a-b.py"), ("L14", "sidings/Upper.py"),
                           ("L14", "sidings/test_a.py"), ("L14", "sidings/tests.py"), ("L14", "sidings/range.py"),
                           ("L14", "sidings/inner/a.py"), ("L14", "sidings/enum.py")):
            self.assertIn(rule, broken(rules.faults({INIT: "", path: ""})), path)
        self.assertIn("L14", broken(rules.faults({"sidings/a.py": ""})))
        inner = {INIT: "", "sidings/inner/__init__.py": "", "sidings/inner/__main__.py": ""}
        self.assertIn("L14", broken(rules.faults(inner)))

    def test_files_that_draw_from_one_another(self):
        first, second = "from sidings.b import g\n\nF = 1\n", "from sidings.a import F\n\n\ndef g():\n    return F\n"
        self.assertIn("L16", broken(rules.faults({INIT: "", "sidings/a.py": first, "sidings/b.py": second})))
        self.assertEqual(rules.faults({INIT: "", "sidings/a.py": "F = 1\n", "sidings/b.py": second}), [])

    def test_a_name_of_the_package_that_one_of_its_files_has(self):
        self.assertIn("L16", broken(rules.faults({INIT: "a = 1\n", "sidings/a.py": ""})))

    def test_each_rule_is_held(self):
        held = set(BREAKING) | {"L1"}
        self.assertEqual(held, {f"L{number}" for number in range(1, 29)})


if __name__ == "__main__":
    unittest.main()
