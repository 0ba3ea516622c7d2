import inspect
import itertools
import unittest

import kinds
from sidings.answers import Shunted
from sidings.errors import BadTrain
from sidings.tracks import one_blind, two_blind
from sidings.yards import behind, run
from trains import mixed, searched_moves, through_blind


class Telling(unittest.TestCase):

    def check(self, one, other, wanted):
        told = behind(one, other)
        self.assertEqual(told, wanted)
        self.assertIs(type(told), list)
        for wagon in told:
            self.assertIs(type(wagon), int)

    def test_both_are_numbered_anew(self):
        self.check([30, 10, 20], [5, 7], [2, 0, 1, 3, 4])
        self.check([5, 7], [30, 10, 20], [0, 1, 4, 2, 3])
        self.check([1], [1], [0, 1])
        self.check([9], [3], [0, 1])

    def test_wagons_that_both_trains_have(self):
        self.check([2, 1, 3], [3, 1, 2], [1, 0, 2, 5, 3, 4])

    def test_trains_that_are_numbered_so_already(self):
        self.check([1, 0], [0, 1], [1, 0, 2, 3])
        self.check([0, 1], [3, 2], [0, 1, 3, 2])

    def test_a_train_of_none_as_the_first(self):
        self.check([], [8, -4, 6], [2, 0, 1])

    def test_a_train_of_none_as_the_second(self):
        self.check([8, -4, 6], [], [2, 0, 1])

    def test_a_train_of_none_as_both(self):
        self.check([], [], [])

    def test_wagons_below_nought_and_very_large_ones(self):
        low, high = -10 ** 5000, 10 ** 5000
        self.check([0, high, low], [high, low, -1, 0], [1, 2, 0, 6, 3, 4, 5])

    def test_all_short_trains(self):
        trains = [list(each) for count in range(4) for each in itertools.permutations([-7, 0, 40][:count])]
        for one, other in itertools.product(trains, repeat=2):
            anew = [sum(less < wagon for less in one) for wagon in one]
            anew += [sum(less < wagon for less in other) + len(one) for wagon in other]
            self.check(one, other, anew)

    def test_long_trains(self):
        one = list(range(50000, 0, -1))
        other = [wagon * (2 ** 61 - 1) for wagon in range(30000)]
        # Not assertEqual: it would take hours to tell where such long lists differ.
        self.assertTrue(behind(one, other) == list(range(49999, -1, -1)) + list(range(50000, 80000)))

    def test_what_is_told_is_a_train_again(self):
        told = behind([4, 2], [1, 9, 3])
        self.assertEqual(behind(told, []), told)
        self.assertEqual(behind(behind([2, 1], [3]), [5, 4]), behind([2, 1], behind([3], [5, 4])))

    def test_the_arguments_bear_their_names(self):
        self.assertEqual(list(inspect.signature(behind).parameters), ["one", "other"])
        self.assertEqual(behind(other=[1], one=[2, 1]), [1, 0, 2])


class InOrderJustIfBothCan(unittest.TestCase):

    def check(self, one, other, many):
        both = behind(one, other)
        can_both = searched_moves(one, many) is not None and searched_moves(other, many) is not None
        moves = searched_moves(both, many)
        self.assertEqual(moves is not None, can_both, (one, other, many))
        if can_both:
            self.assertEqual(run(both, True, many, moves), (sorted(both), [[] for _ in range(many)], []))
        return can_both

    def test_one_blind_track(self):
        trains = [list(each) for count in range(4) for each in itertools.permutations(range(count))]
        answers = [self.check(one, other, 1) for one, other in itertools.product(trains, repeat=2)]
        self.assertEqual(set(answers), {True, False})

    def test_two_blind_tracks(self):
        trains = [[], [1, 2, 0], [1, 2, 3, 0], [3, 1, 2, 0], [2, 3, 1, 0]]
        answers = [self.check(one, other, 2) for one, other in itertools.product(trains, repeat=2)]
        self.assertEqual(set(answers), {True, False})

    def test_what_is_told_of_them(self):
        for tell, many in ((one_blind, 1), (two_blind, 2)):
            trains = [through_blind(50, many, seed) for seed in range(4)] + [mixed(50, seed) for seed in range(4)]
            trains += [[], [1, 2, 0], [1, 2, 3, 0]]
            for one, other in itertools.product(trains, repeat=2):
                can_both = isinstance(tell(one), Shunted) and isinstance(tell(other), Shunted)
                self.assertEqual(isinstance(tell(behind(one, other)), Shunted), can_both, (one, other))


class Refusing(unittest.TestCase):

    def check(self, one, other):
        with self.assertRaises(Exception) as caught:
            behind(one, other)
        self.assertIs(type(caught.exception), BadTrain)

    def test_no_train_as_the_first(self):
        for place, value in enumerate(kinds.no_trains()):
            with self.subTest(place=place):
                self.check(value, [2, 1])

    def test_no_train_as_the_second(self):
        for place, value in enumerate(kinds.no_trains()):
            with self.subTest(place=place):
                self.check([2, 1], value)

    def test_no_train_beside_a_train_of_none(self):
        for train in (None, (), [1, 1], [True], [1.0], ["1"]):
            self.check(train, [])
            self.check([], train)

    def test_no_train_as_both(self):
        for train in (None, (), [1, 1], [True], [1.0], ["1"]):
            self.check(train, train)


class NothingKept(unittest.TestCase):

    def test_what_is_handed_in_stays_as_it_was(self):
        one, other = [5, 3], [9, 4, 6]
        behind(one, other)
        self.assertEqual((one, other), ([5, 3], [9, 4, 6]))

    def test_changing_what_was_told_changes_nothing_handed_in(self):
        for one, other in (([1, 0], []), ([], [1, 0]), ([], []), ([0], [1])):
            handed = (list(one), list(other))
            behind(*handed).append(99)
            self.assertEqual(handed, (one, other))

    def test_changing_what_was_handed_in_changes_nothing_told(self):
        one, other = [1, 0], [0, 1]
        told = behind(one, other)
        one.clear()
        other.clear()
        self.assertEqual(told, [1, 0, 2, 3])

    def test_what_is_told_is_new_each_time(self):
        for one, other in (([1, 0], []), ([], [1, 0]), ([], []), ([0], [1])):
            first, second = behind(one, other), behind(one, other)
            self.assertIsNot(first, second)
            wanted = list(second)
            first.append(99)
            self.assertEqual(second, wanted)
            self.assertEqual(behind(one, other), wanted)

    def test_a_train_handed_in_as_both(self):
        train = [7, 3]
        self.assertEqual(behind(train, train), [1, 0, 3, 2])
        self.assertEqual(train, [7, 3])


if __name__ == "__main__":
    unittest.main()
