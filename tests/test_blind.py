"""One blind track and two of them."""

import inspect
import unittest

import kinds
from sidings.answers import Odd, Shunted, Three
from sidings.errors import BadTrain
from sidings.tracks import one_blind, two_blind
from trains import (
    HIGH, LOW, are_three, brings_out, far_apart, is_ring, mixed, ring_train, searched_moves, short_trains,
    through_blind,
)


class Checking(unittest.TestCase):

    def check_shunted(self, answer, train, many):
        self.assertIs(type(answer), Shunted)
        self.assertIs(type(answer.moves), list)
        self.assertTrue(brings_out(train, True, many, answer.moves))
        self.assertIs(answer.shows(train, True, many), True)

    def check_three(self, answer, train):
        self.assertIs(type(answer), Three)
        self.assertTrue(are_three([answer.first, answer.second, answer.third], train))
        self.assertIs(answer.shows(train), True)

    def check_odd(self, answer, train):
        self.assertIs(type(answer), Odd)
        self.assertEqual((type(answer.places), type(answer.shown)), (list, list))
        self.assertTrue(is_ring(answer.places, answer.shown, train))
        self.assertIs(answer.shows(train), True)

    def check_one(self, train, is_shunted):
        answer = one_blind(train)
        if is_shunted:
            self.check_shunted(answer, train, 1)
        else:
            self.check_three(answer, train)

    def check_two(self, train, is_shunted):
        answer = two_blind(train)
        if is_shunted:
            self.check_shunted(answer, train, 2)
        else:
            self.check_odd(answer, train)


class OneBlind(Checking):

    def test_a_train_of_none(self):
        self.check_one([], True)
        self.assertEqual(one_blind([]).moves, [])

    def test_one_wagon(self):
        for wagon in (0, -1, 7, LOW, HIGH):
            self.check_one([wagon], True)
            self.assertEqual(one_blind([wagon]).moves, [("in", 0), ("out", 0)])

    def test_three_wagons(self):
        for train in ([1, 2, 3], [1, 3, 2], [2, 1, 3], [3, 1, 2], [3, 2, 1]):
            self.check_one(train, True)
        self.check_one([2, 3, 1], False)
        answer = one_blind([2, 3, 1])
        self.assertEqual((answer.first, answer.second, answer.third), (0, 1, 2))

    def test_all_short_trains_never_both(self):
        for train in short_trains(6):
            self.check_one(train, searched_moves(train, 1) is not None)

    def test_wagons_below_nought_and_very_large_ones(self):
        for train in short_trains(5):
            self.check_one(far_apart(train), searched_moves(train, 1) is not None)
        self.check_one([HIGH, LOW, 0], True)
        self.check_one([0, HIGH, LOW], False)
        self.check_one([-1, 0, -2], False)

    def test_long_trains_that_can(self):
        self.check_one(list(range(100000)), True)
        self.check_one(list(range(100000, 0, -1)), True)
        for seed in range(20):
            self.check_one(through_blind(500, 1, seed), True)
        self.check_one(through_blind(100000, 1, 3), True)

    def test_long_trains_that_cannot(self):
        self.check_one(list(range(1, 100000)) + [0], False)
        self.check_one(list(range(50000, 0, -1)) + [50001, 50003, 50002, -1], False)
        self.check_one(mixed(100000, 5), False)

    def test_a_long_train_that_only_its_ends_spoil(self):
        self.check_one([1] + list(range(100000, 1, -1)) + [0], False)


class TwoBlind(Checking):

    def test_a_train_of_none(self):
        self.check_two([], True)
        self.assertEqual(two_blind([]).moves, [])

    def test_one_wagon(self):
        for wagon in (0, -1, 7, LOW, HIGH):
            self.check_two([wagon], True)

    def test_four_wagons(self):
        for train in short_trains(4):
            self.check_two(train, train != [1, 2, 3, 0])

    def test_all_short_trains_never_both(self):
        for train in short_trains(6):
            self.check_two(train, searched_moves(train, 2) is not None)

    def test_how_many_of_the_short_trains_can(self):
        counts = [0] * 8
        for train in short_trains(7):
            answer = two_blind(train)
            self.check_two(train, isinstance(answer, Shunted))
            counts[len(train)] += isinstance(answer, Shunted)
        self.assertEqual(counts, [1, 1, 2, 6, 23, 103, 513, 2760])

    def test_rings_of_three_places(self):
        self.check_two([1, 2, 3, 0], False)
        answer = two_blind([1, 2, 3, 0])
        self.assertEqual((sorted(answer.places), answer.shown), ([0, 1, 2], [3, 3, 3]))
        self.assertEqual(len(two_blind(ring_train(3)).places), 3)

    def test_rings_of_more_places(self):
        for count in (5, 7, 9, 11, 25, 101, 30001):
            train = ring_train(count)
            self.check_two(train, False)
            self.assertEqual(len(two_blind(train).places), count)
            if count < 100:
                self.check_two(far_apart(train), False)

    def test_rings_of_an_even_count_do_no_harm(self):
        for count in (4, 6, 8, 26, 30000):
            self.check_two(ring_train(count), True)

    def test_wagons_below_nought_and_very_large_ones(self):
        for train in short_trains(5):
            self.check_two(far_apart(train), searched_moves(train, 2) is not None)
        self.check_two([0, HIGH, LOW], True)
        self.check_two([-2, 0, HIGH, LOW], False)

    def test_long_trains_that_can(self):
        self.check_two(list(range(100000)), True)
        self.check_two(list(range(100000, 0, -1)), True)
        for seed in range(20):
            self.check_two(through_blind(500, 2, seed), True)
            self.check_two(through_blind(40, 2, seed), True)
        self.check_two(through_blind(100000, 2, 3), True)
        self.check_two(through_blind(100000, 1, 3), True)

    def test_long_trains_that_cannot(self):
        self.check_two(list(range(1, 100000)) + [0], False)
        self.check_two(mixed(100000, 5), False)
        for seed in range(20):
            self.check_two(mixed(300, seed), False)

    def test_long_trains_with_two_wagons_that_changed_places(self):
        told = set()
        for seed in range(200):
            train = through_blind(40, 2, seed)
            train[seed % 40], train[seed * 7 % 40] = train[seed * 7 % 40], train[seed % 40]
            is_shunted = isinstance(two_blind(train), Shunted)
            self.check_two(train, is_shunted)
            told.add(is_shunted)
        self.assertEqual(told, {True, False})

    def test_what_one_track_can_two_can(self):
        for train in short_trains(5):
            if isinstance(one_blind(train), Shunted):
                self.check_two(train, True)
                self.assertTrue(one_blind(train).shows(train, True, 2))


class Both(unittest.TestCase):

    TRAINS = ([], [4], [2, 1, 3], [1, 2, 0], [1, 2, 3, 0], [5, 6, 7, -1, 4])

    def test_the_arguments_bear_their_names(self):
        for tell in (one_blind, two_blind):
            self.assertEqual(list(inspect.signature(tell).parameters), ["train"])
            self.assertIsInstance(tell(train=[2, 1]), Shunted)

    def test_no_train_is_refused(self):
        for tell in (one_blind, two_blind):
            for place, value in enumerate(kinds.no_trains()):
                with self.subTest(tell=tell.__name__, place=place), self.assertRaises(Exception) as caught:
                    tell(value)
                self.assertIs(type(caught.exception), BadTrain)

    def test_what_is_handed_in_stays_as_it_was(self):
        for tell in (one_blind, two_blind):
            for train in self.TRAINS:
                handed = list(train)
                answer = tell(handed)
                self.assertEqual(handed, train)
                told = {name: list(value) if isinstance(value, list) else value for name, value in vars(answer).items()}
                handed.append(99)
                self.assertEqual(vars(answer), told)

    def test_what_is_told_may_be_changed_and_the_same_asked_again(self):
        for tell in (one_blind, two_blind):
            for train in self.TRAINS:
                handed = list(train)
                first = tell(handed)
                wanted = vars(tell(handed))
                for value in vars(first).values():
                    if isinstance(value, list):
                        value.clear()
                        value.append(99)
                self.assertEqual(handed, train)
                self.assertEqual(vars(tell(handed)), wanted)


if __name__ == "__main__":
    unittest.main()
