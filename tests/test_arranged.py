"""Given orders of wagons that come as 0, 1, 2 and so on."""

import inspect
import itertools
import unittest

import kinds
from sidings.answers import Given, Thrice
from sidings.errors import BadTrain
from sidings.tracks import arranged
from sidings.yards import run
from trains import HIGH, LOW, are_thrice, mixed, short_trains, through_blind


def turned_round(train):
    """For wagons 0, 1, 2 and so on the place of each."""
    return sorted(range(len(train)), key=lambda place: train[place])


class Telling(unittest.TestCase):

    def check(self, order, is_given):
        answer = arranged(order)
        if is_given:
            self.assertIs(type(answer), Given)
            self.assertIs(type(answer.moves), list)
            self.assertTrue(run(list(range(len(order))), True, 1, answer.moves) == (order, [[]], []))
        else:
            self.assertIs(type(answer), Thrice)
            self.assertTrue(are_thrice([answer.first, answer.second, answer.third], order))
        self.assertIs(answer.shows(order), True)

    def test_an_order_of_none(self):
        self.check([], True)
        self.assertEqual(arranged([]).moves, [])

    def test_one_wagon(self):
        self.check([0], True)
        self.assertEqual(arranged([0]).moves, [("in", 0), ("out", 0)])

    def test_three_wagons(self):
        for order in ([0, 1, 2], [0, 2, 1], [1, 0, 2], [1, 2, 0], [2, 1, 0]):
            self.check(order, True)
        self.check([2, 0, 1], False)
        answer = arranged([2, 0, 1])
        self.assertEqual((answer.first, answer.second, answer.third), (0, 1, 2))

    def test_all_short_orders_never_both(self):
        for order in short_trains(7):
            has_three = any(are_thrice(places, order) for places in itertools.combinations(range(len(order)), 3))
            self.check(order, not has_three)

    def test_all_that_moves_bring_about_are_given(self):
        told = {tuple(order) for order in short_trains(4) if isinstance(arranged(order), Given) and len(order) == 4}
        moves = [(word, 0) for word in ("in", "out")]
        brought = set()
        for each in itertools.product(moves, repeat=8):
            try:
                left = run([0, 1, 2, 3], True, 1, list(each))[0]
            except ValueError:
                continue
            brought |= {tuple(left)} if len(left) == 4 else set()
        self.assertEqual(told, brought)

    def test_long_orders_that_can(self):
        self.check(list(range(100000)), True)
        self.check(list(range(99999, -1, -1)), True)
        for seed in range(20):
            self.check(turned_round(through_blind(500, 1, seed)), True)
        self.check(turned_round(through_blind(100000, 1, 2)), True)

    def test_long_orders_that_cannot(self):
        self.check([99999] + list(range(99999)), False)
        self.check(mixed(100000, 5), False)
        self.check(list(range(50000, -1, -1)) + [50003, 50001, 50002], False)

    def test_the_arguments_bear_their_names(self):
        self.assertEqual(list(inspect.signature(arranged).parameters), ["order"])
        self.assertIsInstance(arranged(order=[0]), Given)


class Refusing(unittest.TestCase):

    def check(self, order):
        with self.assertRaises(Exception) as caught:
            arranged(order)
        self.assertIs(type(caught.exception), BadTrain)

    def test_no_train(self):
        for place, value in enumerate(kinds.no_trains()):
            with self.subTest(place=place):
                self.check(value)

    def test_no_order(self):
        for order in ([1], [-1], [2], [0, 2], [1, 2], [-1, 0], [3, 1, 2], [0, 1, 3], [0, 1, -1], [HIGH], [LOW],
                      [1, 0, HIGH], [0, LOW, 1], [0, 0], [1, 0, 1], [0, True], [False, 1], [False], [2, 0, 1, 4],
                      list(range(1, 1000)), list(range(1000)) + [999]):
            self.check(order)


class NothingKept(unittest.TestCase):

    ORDERS = ([], [0], [1, 0, 2], [2, 0, 1], [3, 0, 1, 2])

    def test_what_is_handed_in_stays_as_it_was(self):
        for order in self.ORDERS:
            handed = list(order)
            answer = arranged(handed)
            self.assertEqual(handed, order)
            handed.append(99)
            self.assertTrue(answer.shows(order))

    def test_what_is_told_may_be_changed_and_the_same_asked_again(self):
        for order in self.ORDERS:
            handed = list(order)
            wanted, first = vars(arranged(handed)), arranged(handed)
            for value in vars(first).values():
                if isinstance(value, list):
                    value.append(99)
            self.assertEqual(handed, order)
            self.assertEqual(vars(arranged(handed)), wanted)


if __name__ == "__main__":
    unittest.main()
