"""Values of many kinds, for the places where a refusal is told."""

from decimal import Decimal
from fractions import Fraction


class Sullen:
    """Fails whatever is done with it."""

    def fail(self, *others):
        raise RuntimeError("touched")

    __eq__ = __ne__ = __lt__ = __le__ = __gt__ = __ge__ = fail
    __hash__ = __bool__ = __len__ = __iter__ = __getitem__ = fail
    __repr__ = __str__ = __int__ = __index__ = __add__ = __radd__ = fail


class Agreeing:
    """Equal to everything, and as good as any number."""

    def __eq__(self, other):
        return True

    def __hash__(self):
        return 0

    def __index__(self):
        return 0

    def __le__(self, other):
        return True

    __lt__ = __ge__ = __gt__ = __le__


class ListAlike:
    """Walks and counts like a list, and is none."""

    def __init__(self, held):
        self.held = held

    def __iter__(self):
        return iter(self.held)

    def __len__(self):
        return len(self.held)

    def __getitem__(self, place):
        return self.held[place]


def within_itself():
    ring = []
    ring.append(ring)
    return ring


def deep():
    nest = []
    for _ in range(100000):
        nest = [nest]
    return nest


def truths():
    return [True, False]


def numbers():
    return [0, 1, -1, 2, 100001, 10 ** 5000, -10 ** 5000]


def texts():
    return ["", "in", "out", "0", "\ud800", "\0"]


def tuples():
    return [(), (0,), ("in", 0), ("in", 0, 0), (0, 1), ([], {})]


def lists_of_no_numbers():
    return [[None], [[]], [{}], [(0,)], ["in"], [("in", 0)], within_itself(), deep()]


def others():
    """Neither numbers nor truths, texts, tuples nor lists."""
    return [
        None, 0.0, 1.0, float("nan"), float("inf"), 1j, Decimal(1), Fraction(1), b"", b"in", bytearray(b"in"),
        memoryview(b"in"), {}, {0: "in"}, {"in": 0}, set(), {0}, frozenset([1]), range(2), iter([0, 1]), zip([1], [2]),
        {1: 2}.keys(), {1: 2}.items(), slice(1), (each for each in [1]), object(), object, list, int, len, lambda: 0,
        Exception, ValueError("in"), ..., NotImplemented, Sullen(), Sullen, Agreeing(), ListAlike([]),
        ListAlike([2, 1]), ListAlike(["in", 0]),
    ]


def no_lists():
    return others() + truths() + numbers() + texts() + tuples()


def no_tuples():
    return others() + truths() + numbers() + texts() + lists_of_no_numbers() + [[], ["in", 0]]


def no_numbers():
    return others() + truths() + texts() + tuples() + lists_of_no_numbers() + [[], [0], [1]]


def no_truths():
    return others() + numbers() + texts() + tuples() + lists_of_no_numbers() + [[], [True], [False]]


def no_texts():
    return others() + truths() + numbers() + tuples() + lists_of_no_numbers() + [[], ["in"]]


def no_trains():
    within = [[value] for value in no_numbers()]
    among = [[3, value, 1] for value in no_numbers()]
    at_end = [[3, 1, value] for value in no_numbers()]
    alike = [[0, 0], [1, 2, 1], [-1, -1], [3, 1, 2, 3], [10 ** 40, 10 ** 40], [5, 4, 4], [7, 7, 7]]
    return no_lists() + lists_of_no_numbers() + within + among + at_end + alike
