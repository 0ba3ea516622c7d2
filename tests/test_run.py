import copy
import enum
import inspect
import itertools
import unittest
from collections import namedtuple

import kinds
from sidings.errors import BadMoves, BadTrain, BadYard, Stuck
from sidings.yards import run
from trains import moves_of, slow_run

IN, OUT = ("in", 0), ("out", 0)


class Running(unittest.TestCase):

    def check(self, train, blind, many, moves, left, tracks, coming):
        told = run(train, blind, many, moves_of(moves))
        self.assertEqual(told, (left, tracks, coming))
        self.assertIs(type(told), tuple)
        for each in [*told, *told[1]]:
            self.assertIs(type(each), list)

    def test_one_blind_track(self):
        self.check([3, 1, 2], True, 1, "i0 i0 o0 i0", [1], [[3, 2]], [])
        self.check([2, 1, 0], True, 1, "i0 i0 i0 o0 o0 o0", [0, 1, 2], [[]], [])
        self.check([0, 1, 2], True, 1, "i0 i0 i0 o0 o0", [2, 1], [[0]], [])

    def test_one_through_track(self):
        self.check([3, 1, 2], False, 1, "i0 i0 o0 i0", [3], [[1, 2]], [])
        self.check([2, 1, 0], False, 1, "i0 i0 i0 o0 o0 o0", [2, 1, 0], [[]], [])
        self.check([0, 1, 2], False, 1, "i0 i0 i0 o0 o0", [0, 1], [[2]], [])

    def test_several_blind_tracks(self):
        self.check([4, 1, 3, 2, 0], True, 3, "i2 i0 i2 i0 o2 o0", [3, 2], [[1], [], [4]], [0])
        self.check([1, 2, 0], True, 2, "i0 i1 i0 o0 o0 o1", [0, 1, 2], [[], []], [])

    def test_several_through_tracks(self):
        self.check([4, 1, 3, 2, 0], False, 3, "i2 i0 i2 i0 o2 o0", [4, 1], [[2], [], [3]], [0])
        self.check([1, 0, 2], False, 2, "i0 i1 i0 o1 o0 o0", [0, 1, 2], [[], []], [])

    def test_a_through_track_that_empties_and_fills_again(self):
        self.check([5, 6, 7, 8], False, 1, "i0 o0 i0 i0 o0 i0", [5, 6], [[7, 8]], [])

    def test_a_blind_track_that_empties_and_fills_again(self):
        self.check([5, 6, 7, 8], True, 1, "i0 o0 i0 i0 o0 i0", [5, 7], [[6, 8]], [])

    def test_wagons_that_stand_are_told_as_they_came_in(self):
        for blind in (True, False):
            self.check([9, 2, 5, 1], blind, 2, "i1 i1 i1", [], [[], [9, 2, 5]], [1])

    def test_a_train_of_none(self):
        for blind in (True, False):
            self.check([], blind, 1, "", [], [[]], [])
            self.check([], blind, 3, "", [], [[], [], []], [])

    def test_no_moves(self):
        for blind in (True, False):
            self.check([2, 0, 1], blind, 2, "", [], [[], []], [2, 0, 1])

    def test_wagons_below_nought_and_very_large_ones(self):
        low, high = -10 ** 5000, 10 ** 5000
        self.check([high, -3, low, 0], True, 1, "i0 i0 i0 o0 o0", [low, -3], [[high]], [0])
        self.check([high, -3, low, 0], False, 1, "i0 i0 i0 o0 o0", [high, -3], [[low]], [0])

    def test_wagons_need_not_leave_in_order(self):
        self.check([1, 2], True, 1, "i0 i0 o0 o0", [2, 1], [[]], [])

    def test_the_largest_yard(self):
        for blind in (True, False):
            left, tracks, coming = run([7, 8, 9], blind, 100000, moves_of("i99999 i0 o99999"))
            self.assertEqual((left, coming), ([7], [9]))
            self.assertEqual(len(tracks), 100000)
            self.assertEqual((tracks[0], tracks[99999]), ([8], []))
            self.assertEqual(sum(map(len, tracks)), 1)

    def test_a_long_train_through_one_track(self):
        train = list(range(200000))
        moves = [IN] * len(train) + [OUT] * len(train)
        # Not assertEqual: it would take hours to tell where such long lists differ.
        self.assertTrue(run(train, False, 1, moves) == (train, [[]], []))
        self.assertTrue(run(train, True, 1, moves) == (train[::-1], [[]], []))

    def test_a_long_train_of_wagons_with_one_hash(self):
        train = [wagon * (2 ** 61 - 1) for wagon in range(30000)]
        self.assertTrue(run(train, True, 1, []) == ([], [[]], train))

    def test_all_short_moves(self):
        choice = [("in", 0), ("in", 1), ("out", 0), ("out", 1)]
        for count in range(7):
            for moves in itertools.product(choice, repeat=count):
                for blind in (True, False):
                    self.check_like_slow([2, 0, 1], blind, 2, list(moves))

    def check_like_slow(self, train, blind, many, moves):
        wanted = slow_run(train, blind, many, moves)
        try:
            told = run(train, blind, many, moves)
        except Stuck as stuck:
            told = stuck.at
        self.assertEqual(told, wanted, (train, blind, many, moves))

    def test_the_arguments_bear_their_names(self):
        self.assertEqual(list(inspect.signature(run).parameters), ["train", "blind", "many", "moves"])
        self.assertEqual(run(train=[1], blind=True, many=1, moves=[IN]), ([], [[1]], []))

    def test_values_of_classes_of_their_own_count_as_what_they_are(self):
        class Wagon(enum.IntEnum):
            RED = 5

        class Word(str, enum.Enum):
            IN = "in"

        class Restless(list):
            def __iter__(self):
                raise RuntimeError("walked")

            __len__ = __getitem__ = __iter__

        move = namedtuple("move", "word track")
        told = run(Restless([Wagon.RED, 6]), True, 1, Restless([move(Word.IN, 0)]))
        self.assertEqual(told, ([], [[5]], [6]))


class Sticking(unittest.TestCase):

    def check(self, train, many, moves, at):
        for blind in (True, False):
            with self.assertRaises(Stuck) as caught:
                run(train, blind, many, moves_of(moves))
            self.assertIs(type(caught.exception), Stuck)
            self.assertEqual(caught.exception.at, at)
            self.assertIs(type(caught.exception.at), int)

    def test_no_wagon_left_to_come(self):
        self.check([], 1, "i0", 0)
        self.check([4], 1, "i0 i0", 1)
        self.check([4, 5], 3, "i2 i1 o2 i0", 3)

    def test_none_on_the_track(self):
        self.check([], 1, "o0", 0)
        self.check([4], 1, "o0", 0)
        self.check([4], 1, "i0 o0 o0", 2)
        self.check([4, 5], 2, "i0 o1", 1)
        self.check([4, 5], 2, "i0 i1 o1 o1", 3)

    def test_the_first_of_several(self):
        self.check([4], 1, "i0 o0 o0 o0 i0 i0", 2)
        self.check([4], 2, "i0 i1 o1", 1)
        self.check([], 1, "o0 i0 o0", 0)

    def test_moves_behind_it_that_would_go(self):
        self.check([4], 1, "o0 i0 o0", 0)

    def test_no_wagons_left_on_the_track_is_not_stuck_at_its_end(self):
        for blind in (True, False):
            self.assertEqual(run([4], blind, 1, [IN, OUT]), ([4], [[]], []))


class Refusing(unittest.TestCase):

    def check(self, error, *handed):
        with self.assertRaises(Exception) as caught:
            run(*handed)
        self.assertIs(type(caught.exception), error)

    def check_all(self, error, values, handed_with):
        for place, value in enumerate(values):
            with self.subTest(place=place, kind=type(value).__name__):
                self.check(error, *handed_with(value))

    def test_no_train(self):
        self.check_all(BadTrain, kinds.no_trains(), lambda value: (value, True, 1, []))
        self.check_all(BadTrain, kinds.no_trains(), lambda value: (value, False, 2, []))

    def test_truths_are_no_wagons(self):
        for train in ([True], [False], [0, True], [True, False], [5, 4, False]):
            self.check(BadTrain, train, True, 1, [])

    def test_two_wagons_alike(self):
        for train in ([0, 0], [1, 2, 1], [-1, -1], [3, 2, 1, 2]):
            self.check(BadTrain, train, True, 1, [])

    def test_a_train_is_refused_with_no_moves_and_with_moves(self):
        self.check(BadTrain, [1, 1], True, 1, [])
        self.check(BadTrain, [1, 1], True, 1, [IN, OUT])

    def test_blind_is_neither_true_nor_false(self):
        self.check_all(BadYard, kinds.no_truths(), lambda value: ([1], value, 1, []))

    def test_many_is_no_number(self):
        self.check_all(BadYard, kinds.no_numbers(), lambda value: ([1], True, value, []))
        self.check_all(BadYard, kinds.no_numbers(), lambda value: ([1], False, value, []))

    def test_many_beyond_the_bounds(self):
        for many in (0, -1, -10 ** 5000, 100001, 100002, 10 ** 9, 10 ** 5000):
            for blind in (True, False):
                self.check(BadYard, [1], blind, many, [])

    def test_many_at_the_bounds(self):
        for many in (1, 2, 99999, 100000):
            for blind in (True, False):
                self.assertEqual(len(run([1], blind, many, [])[1]), many)

    def test_moves_are_no_list(self):
        self.check_all(BadMoves, kinds.no_lists(), lambda value: ([1], True, 1, value))
        self.check_all(BadMoves, [(IN,), (IN, OUT), iter([IN]), {IN: OUT}], lambda value: ([1], True, 1, value))

    def test_a_move_is_no_tuple(self):
        self.check_all(BadMoves, kinds.no_tuples(), lambda value: ([1], True, 1, [value]))
        self.check_all(BadMoves, kinds.no_tuples(), lambda value: ([1], True, 1, [IN, value]))

    def test_a_move_is_no_pair(self):
        for move in ((), ("in",), (0,), ("in", 0, 0), ("in", 0, None), (("in", 0),), (("in", 0), ("in", 0))):
            self.check(BadMoves, [1], True, 1, [move])
            self.check(BadMoves, [1], True, 1, [IN, move])

    def test_the_word_is_no_text(self):
        self.check_all(BadMoves, kinds.no_texts(), lambda value: ([1], True, 1, [(value, 0)]))

    def test_another_word(self):
        words = ("", "i", "n", "ou", "In", "IN", "OUT", "in ", " in", "out\n", "inout", "up", "\ud800", "\0", "0")
        for word in words:
            self.check(BadMoves, [1], True, 1, [(word, 0)])

    def test_the_track_is_no_number(self):
        for word in ("in", "out"):
            self.check_all(BadMoves, kinds.no_numbers(), lambda value: ([1], True, 2, [IN, (word, value)]))

    def test_the_track_is_not_there(self):
        for word in ("in", "out"):
            for many, track in ((1, 1), (1, -1), (2, 2), (2, -1), (2, -2), (3, 10 ** 5000), (3, -10 ** 5000)):
                self.check(BadMoves, [1], True, many, [(word, track)])
            self.check(BadMoves, [1], True, 100000, [(word, 100000)])

    def test_the_pair_turned_round(self):
        self.check(BadMoves, [1], True, 1, [(0, "in")])

    def test_a_bad_move_at_the_end(self):
        self.check(BadMoves, [1], True, 1, [IN, OUT, ("up", 0)])


class TheOrderOfRefusals(unittest.TestCase):

    BAD_TRAINS = (None, (), [1, 1], [True], ["1"])
    BAD_BLINDS = (None, 1, 0, "True")
    BAD_MANY = (None, True, 0, 100001, "1", 1.0)
    BAD_MOVES = (None, (), [None], [["in", 0]], [("up", 0)], [("in", 5)], [("in", True)], [("in",)])
    STUCK = ([OUT], [IN, IN], [IN, OUT, OUT])

    def check(self, error, trains, blinds, many, moves):
        for handed in itertools.product(trains, blinds, many, moves):
            with self.assertRaises(Exception) as caught:
                run(*handed)
            self.assertIs(type(caught.exception), error, handed)

    def test_a_bad_train_ahead_of_all(self):
        self.check(BadTrain, self.BAD_TRAINS, (True,) + self.BAD_BLINDS, (1,) + self.BAD_MANY,
                   self.BAD_MOVES + self.STUCK)

    def test_a_bad_yard_ahead_of_bad_moves_and_stuck_ones(self):
        self.check(BadYard, ([1],), self.BAD_BLINDS, (1,) + self.BAD_MANY, self.BAD_MOVES + self.STUCK)
        self.check(BadYard, ([1],), (True, False), self.BAD_MANY, self.BAD_MOVES + self.STUCK)

    def test_bad_moves_ahead_of_stuck_ones(self):
        stuck_first = tuple(stuck + bad for stuck in self.STUCK for bad in self.BAD_MOVES if isinstance(bad, list))
        self.check(BadMoves, ([1],), (True, False), (1,), self.BAD_MOVES + stuck_first)

    def test_a_move_that_is_bad_and_would_be_stuck(self):
        self.check(BadMoves, ([],), (True, False), (1,), ([("in", 1)], [("out", 1)], [("out", -1)]))

    def test_stuck_last(self):
        self.check(Stuck, ([1],), (True, False), (1,), self.STUCK)


class NothingKept(unittest.TestCase):

    TRAIN = [3, 1, 2, 0]
    MOVES = moves_of("i0 i1 i0 o0")

    def test_what_is_handed_in_stays_as_it_was(self):
        for blind in (True, False):
            train, moves = list(self.TRAIN), list(self.MOVES)
            run(train, blind, 2, moves)
            self.assertEqual((train, moves), (self.TRAIN, self.MOVES))

    def test_what_is_refused_stays_as_it_was(self):
        train, moves = [3, 1], moves_of("i0 o0 o0")
        self.assertRaises(Stuck, run, train, True, 1, moves)
        self.assertEqual((train, moves), ([3, 1], moves_of("i0 o0 o0")))
        train = [2, 1, 2]
        self.assertRaises(BadTrain, run, train, True, 1, moves)
        self.assertEqual(train, [2, 1, 2])

    def test_changing_what_was_told_changes_nothing_handed_in(self):
        for moves in ([], list(self.MOVES)):
            for blind in (True, False):
                train = list(self.TRAIN)
                handed_moves = list(moves)
                self.spoil(run(train, blind, 2, handed_moves))
                self.assertEqual((train, handed_moves), (self.TRAIN, moves))

    def spoil(self, told):
        for track in told[1]:
            track.append(99)
        for each in told:
            each.append(99)

    def test_changing_what_was_handed_in_changes_nothing_told(self):
        for moves in ([], list(self.MOVES)):
            for blind in (True, False):
                train, handed_moves = list(self.TRAIN), list(moves)
                told = run(train, blind, 2, handed_moves)
                before = copy.deepcopy(told)
                train.clear()
                handed_moves.clear()
                self.assertEqual(told, before)

    def test_what_is_told_is_new_each_time(self):
        for moves in ([], self.MOVES):
            for blind in (True, False):
                first = run(self.TRAIN, blind, 2, moves)
                wanted = copy.deepcopy(first)
                second = run(self.TRAIN, blind, 2, moves)
                self.spoil(first)
                self.assertEqual(second, wanted)
                self.assertEqual(run(self.TRAIN, blind, 2, moves), wanted)

    def test_the_lists_within_are_lists_of_their_own(self):
        for train in ([], self.TRAIN):
            told = run(train, True, 3, [])
            lists = [*told, *told[1], train]
            self.assertEqual(len({id(each) for each in lists}), len(lists))


if __name__ == "__main__":
    unittest.main()
