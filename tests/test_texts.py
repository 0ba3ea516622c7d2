import enum
import inspect
import itertools
import re
import unittest

import kinds
from sidings.errors import BadText, BadTrain
from sidings.texts import read, written
from trains import HIGH, LOW, mixed, short_trains

WRITTEN = (
    ([], ""), ([0], "0"), ([7], "7"), ([-7], "-7"), ([3, 1, 2], "3 1 2"), ([10, 0, -10], "10 0 -10"),
    ([999999], "999999"), ([-999999], "-999999"), ([999999, -999999, 0], "999999 -999999 0"), ([1, -1], "1 -1"),
    ([100, 200000, -300], "100 200000 -300"), ([-1, -2, -3], "-1 -2 -3"),
)
# As they stand, none of these is what a train is written as.
UNREAD = (
    " ", "  ", " 1", "1 ", "1  2", "1   2", " 1 2", "1 2 ", "\t", "\n", "1\t2", "1\n2", "1\n", "\n1", "1 \t2", "1\t",
    "\t1", "-0", "00", "01", "-01", "007", "0 00", "000000", "0000001", "-", "--1", "- 1", "1-", "1-2", "-1-", "+1",
    "+0", "1000000", "-1000000", "0999999", "9999999", "1" * 5000, "-" + "9" * 5000, "0" * 5000, "1 1", "0 0", "-3 -3",
    "1 2 1", "a", "1 a", "1,2", "1.0", "1e3", "0x1", "1_000", "1_0", "1;2", "[1]", "(1)", "~", "1 ~", "True", "None",
    "in", "one", "\u0661", "\u00b2", "1\u00a02", "1\u20032", "\uff11", "1\r", "1\r\n2", "1\x0b2", "1\x0c2", "1\0", "\0",
    "\ud800", "\u22121", "1\x1c2", "1\x85",
)
WAGON = "(?:0|-?[1-9][0-9]{0,5})"
WAGONS = re.compile(f"(?:{WAGON}(?: {WAGON})*)?")


def is_written(text):
    words = text.split(" ")
    return WAGONS.fullmatch(text) is not None and len(set(words)) == len(words)


class Writing(unittest.TestCase):

    def test_what_is_told(self):
        for train, text in WRITTEN:
            told = written(train)
            self.assertEqual(told, text)
            self.assertIs(type(told), str)

    def test_wagons_beyond_the_bounds(self):
        for wagon in (1000000, -1000000, 1000001, 10 ** 40, -10 ** 40, HIGH, LOW):
            for train in ([wagon], [1, wagon], [wagon, 1], [1, wagon, 2]):
                self.check_refused(train)

    def test_no_train(self):
        for place, value in enumerate(kinds.no_trains()):
            with self.subTest(place=place):
                self.check_refused(value)

    def check_refused(self, train):
        with self.assertRaises(Exception) as caught:
            written(train)
        self.assertIs(type(caught.exception), BadTrain)

    def test_what_is_handed_in_stays_as_it_was(self):
        train = [3, -1, 2]
        written(train)
        self.assertEqual(train, [3, -1, 2])

    def test_numbers_of_classes_of_their_own_are_written_in_figures(self):
        class Wagon(enum.IntEnum):
            RED = 5

        self.assertEqual(written([Wagon.RED, 6]), "5 6")

    def test_the_arguments_bear_their_names(self):
        self.assertEqual(list(inspect.signature(written).parameters), ["train"])
        self.assertEqual(written(train=[1]), "1")


class Reading(unittest.TestCase):

    def test_what_is_told(self):
        for train, text in WRITTEN:
            told = read(text)
            self.assertEqual(told, train)
            self.assertIs(type(told), list)
            for wagon in told:
                self.assertIs(type(wagon), int)

    def test_other_texts(self):
        for text in UNREAD:
            self.check_refused(text)

    def check_either(self, text):
        if is_written(text):
            self.assertEqual(written(read(text)), text)
        else:
            self.check_refused(text)

    def test_each_sign(self):
        for sign in [chr(number) for number in range(0x700)] + ["\u2003", "\uff11", "\ud800", "\U0001d7ce"]:
            for text in (sign, "1" + sign + "2", sign + "1", "1" + sign, "3 " + sign, "3 -" + sign):
                self.check_either(text)

    def test_all_short_texts(self):
        for count in range(6):
            for signs in itertools.product("012- \t", repeat=count):
                self.check_either("".join(signs))

    def test_figures_around_the_bounds(self):
        for number in (99999, 100000, 999998, 999999, 1000000, 1000001, 9999999, 10000000):
            for ahead in ("", "-", "0", "-0", "+", " ", "1 "):
                self.check_either(ahead + str(number))

    def test_no_text(self):
        for place, value in enumerate(kinds.no_texts() + [b"1 2", ["1"], ("1",), [1, 2], 1, None]):
            with self.subTest(place=place):
                self.check_refused(value)

    def check_refused(self, text):
        with self.assertRaises(Exception) as caught:
            read(text)
        self.assertIs(type(caught.exception), BadText)

    def test_what_is_told_is_new_each_time(self):
        for text in ("", "1", "3 1 2"):
            first, wanted = read(text), read(text)
            first.append(99)
            self.assertEqual(read(text), wanted)

    def test_the_arguments_bear_their_names(self):
        self.assertEqual(list(inspect.signature(read).parameters), ["text"])
        self.assertEqual(read(text="1 -2"), [1, -2])


class BothWays(unittest.TestCase):

    def test_a_train_written_and_read_again_is_the_train(self):
        longer = [mixed(1000, 1), [wagon - 500 for wagon in mixed(1000, 2)], list(range(-999999, 1000000, 37))]
        for train in short_trains(5) + longer:
            self.assertEqual(read(written(train)), train)

    def test_each_wagon(self):
        train = list(range(-1100, 1100)) + list(range(998900, 1000000)) + list(range(-999999, -998900))
        self.assertEqual(read(written(train)), train)


if __name__ == "__main__":
    unittest.main()
