"""Through tracks: so many of them, and the fewest that will do."""

import inspect
import unittest

import kinds
from sidings.answers import Falling, Fewest, Shunted
from sidings.errors import BadTrain, BadYard
from sidings.tracks import fewest, through
from trains import HIGH, LOW, are_falling, brings_out, far_apart, mixed, most_falling, rising_runs, short_trains


class Checking(unittest.TestCase):

    def check_through(self, train, many, is_shunted):
        answer = through(train, many)
        if is_shunted:
            self.assertIs(type(answer), Shunted)
            self.assertIs(type(answer.moves), list)
            self.assertTrue(brings_out(train, False, min(many, 100000), answer.moves))
            self.assertIs(answer.shows(train, False, many), True)
        else:
            self.assertIs(type(answer), Falling)
            self.assertIs(type(answer.places), list)
            self.assertEqual(len(answer.places), many + 1)
            self.assertTrue(are_falling(answer.places, train))
            self.assertIs(answer.shows(train, many), True)

    def check_fewest(self, train, many):
        answer = fewest(train)
        self.assertIs(type(answer), Fewest)
        self.assertEqual((type(answer.moves), type(answer.places)), (list, list))
        self.assertTrue(brings_out(train, False, many, answer.moves))
        self.assertEqual({track for _, track in answer.moves}, set(range(many if train else 0)))
        self.assertEqual(len(answer.places), many if train else 0)
        self.assertTrue(are_falling(answer.places, train))
        self.assertIs(answer.shows(train), True)


class SoMany(Checking):

    def test_a_train_of_none(self):
        for many in (1, 2, 100000, 100001, HIGH):
            self.check_through([], many, True)
            self.assertEqual(through([], many).moves, [])

    def test_one_wagon(self):
        for wagon in (0, -1, 7, LOW, HIGH):
            for many in (1, 2, 100000, 100001, HIGH):
                self.check_through([wagon], many, True)
        self.assertEqual(through([5], 1).moves, [("in", 0), ("out", 0)])

    def test_two_wagons(self):
        self.check_through([1, 2], 1, True)
        self.check_through([2, 1], 1, False)
        self.assertEqual(through([2, 1], 1).places, [0, 1])
        self.check_through([2, 1], 2, True)

    def test_all_short_trains_and_counts_never_both(self):
        for train in short_trains(6):
            for many in range(1, len(train) + 3):
                self.check_through(train, many, most_falling(train) <= many)

    def test_more_tracks_than_wagons(self):
        for train in ([], [3], [3, 1, 2], [9, 8, 7, 6]):
            for many in (len(train) + 1, 50, 100000, 100001, 10 ** 30, HIGH):
                self.check_through(train, many, True)

    def test_wagons_below_nought_and_very_large_ones(self):
        for train in short_trains(5):
            for many in range(1, len(train) + 2):
                self.check_through(far_apart(train), many, most_falling(train) <= many)
        self.check_through([HIGH, 0, LOW], 2, False)
        self.check_through([-1, -2, -3], 3, True)

    def test_long_trains(self):
        up, down = list(range(100000)), list(range(100000, 0, -1))
        self.check_through(up, 1, True)
        self.check_through(down, 99999, False)
        self.check_through(down, 100000, True)
        self.check_through(down, 1, False)
        self.check_through(rising_runs(20000, 7, 1), 7, True)
        self.check_through(mixed(100000, 5), 100, False)
        self.check_through(mixed(100000, 5), 1000, True)

    def test_the_arguments_bear_their_names(self):
        self.assertEqual(list(inspect.signature(through).parameters), ["train", "many"])
        self.assertIsInstance(through(many=1, train=[1]), Shunted)


class TheFewest(Checking):

    def test_a_train_of_none(self):
        self.check_fewest([], 1)
        self.assertEqual(vars(fewest([])), {"moves": [], "places": []})

    def test_one_wagon(self):
        for wagon in (0, -1, 7, LOW, HIGH):
            self.check_fewest([wagon], 1)
            self.assertEqual(fewest([wagon]).places, [0])

    def test_all_short_trains(self):
        for train in short_trains(7):
            self.check_fewest(train, max(1, most_falling(train)))

    def test_fewer_tracks_will_not_do(self):
        for train in short_trains(5):
            many = max(1, len(fewest(train).places))
            self.assertIsInstance(through(train, many), Shunted)
            if many > 1:
                self.assertIsInstance(through(train, many - 1), Falling)

    def test_wagons_below_nought_and_very_large_ones(self):
        for train in short_trains(5):
            self.check_fewest(far_apart(train), max(1, most_falling(train)))
        self.check_fewest([HIGH, 0, LOW], 3)

    def test_long_trains(self):
        self.check_fewest(list(range(100000)), 1)
        self.check_fewest(list(range(50000, 0, -1)), 50000)
        train = rising_runs(2000, 5, 1)
        self.check_fewest(train, most_falling(train))
        train = mixed(2000, 5)
        self.check_fewest(train, most_falling(train))
        self.assertTrue(fewest(mixed(100000, 2)).shows(mixed(100000, 2)))

    def test_the_arguments_bear_their_names(self):
        self.assertEqual(list(inspect.signature(fewest).parameters), ["train"])
        self.assertIsInstance(fewest(train=[1]), Fewest)


class Refusing(unittest.TestCase):

    def check(self, error, tell, *handed):
        with self.assertRaises(Exception) as caught:
            tell(*handed)
        self.assertIs(type(caught.exception), error)

    def test_no_train(self):
        for place, value in enumerate(kinds.no_trains()):
            with self.subTest(place=place):
                self.check(BadTrain, through, value, 2)
                self.check(BadTrain, fewest, value)

    def test_no_count(self):
        for place, value in enumerate(kinds.no_numbers() + [0, -1, -2, LOW]):
            with self.subTest(place=place):
                self.check(BadYard, through, [2, 1], value)
                self.check(BadYard, through, [], value)

    def test_a_bad_train_ahead_of_a_bad_yard(self):
        for train in (None, (), [1, 1], [True], ["1"], 0):
            for many in (None, True, 0, -1, "1", 1.0):
                self.check(BadTrain, through, train, many)


class NothingKept(unittest.TestCase):

    ASKED = (([], 1), ([4], 1), ([2, 1, 3], 1), ([2, 1, 3], 2), ([5, 4, 3, 1], 2))

    def tell_all(self, train, many):
        return [through(train, many), fewest(train)]

    def test_what_is_handed_in_stays_as_it_was(self):
        for train, many in self.ASKED:
            handed = list(train)
            answers = self.tell_all(handed, many)
            self.assertEqual(handed, train)
            told = [{name: list(value) for name, value in vars(answer).items()} for answer in answers]
            handed.append(99)
            self.assertEqual([vars(answer) for answer in answers], told)

    def test_what_is_told_may_be_changed_and_the_same_asked_again(self):
        for train, many in self.ASKED:
            handed = list(train)
            wanted = [vars(answer) for answer in self.tell_all(handed, many)]
            for answer in self.tell_all(handed, many):
                for value in vars(answer).values():
                    value.clear()
                    value.append(99)
            self.assertEqual(handed, train)
            self.assertEqual([vars(answer) for answer in self.tell_all(handed, many)], wanted)


if __name__ == "__main__":
    unittest.main()
