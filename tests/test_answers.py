"""Answers made by hand, and what they say of themselves."""

import copy
import inspect
import itertools
import unittest

from sidings.answers import Answer, Falling, Fewest, Given, Odd, Shunted, Three, Thrice
from trains import HIGH, LOW, are_falling, are_three, are_thrice, is_ring, moves_of, ring_train, short_trains, slow_run

IN, OUT = ("in", 0), ("out", 0)
MADE = (
    (Shunted, {"moves": [IN, OUT]}), (Three, {"first": 0, "second": 1, "third": 2}),
    (Odd, {"places": [0, 1, 2], "shown": [3, 3, 3]}), (Falling, {"places": [0, 1]}),
    (Fewest, {"moves": [IN, OUT], "places": [0]}), (Given, {"moves": [IN, OUT]}),
    (Thrice, {"first": 0, "second": 1, "third": 2}),
)
ASKED = {
    Shunted: ["train", "blind", "many"], Three: ["train"], Odd: ["train"], Falling: ["train", "many"],
    Fewest: ["train"], Given: ["order"], Thrice: ["order"],
}


def leave_so(coming, blind, many, moves, wanted):
    """Whether all wagons leave in the wanted order, by moves on tracks that are there."""
    return slow_run(coming, blind, many, moves) == (wanted, [[] for _ in range(many)], [])


class Saying(unittest.TestCase):

    def check(self, wanted, answer, *asked):
        before = copy.deepcopy((asked, vars(answer)))
        self.assertIs(answer.shows(*asked), wanted, (vars(answer), asked))
        self.assertEqual((asked, vars(answer)), before)


class TheClasses(unittest.TestCase):

    def test_each_is_straight_under_answer(self):
        for made, _ in MADE:
            self.assertEqual(made.__bases__, (Answer,))
        self.assertEqual(Answer.__bases__, (object,))

    def test_the_fields(self):
        for made, fields in MADE:
            self.assertEqual(list(inspect.signature(made).parameters), list(fields))
            self.assertEqual(vars(made(**fields)), fields)
            self.assertEqual(vars(made(*fields.values())), fields)
            for name in fields:
                self.assertFalse(hasattr(made, name))

    def test_what_shows_is_asked_with(self):
        for made, names in ASKED.items():
            self.assertEqual(list(inspect.signature(made.shows).parameters), ["self", *names])
        self.assertIs(Shunted([IN, OUT]).shows(train=[1], blind=True, many=1), True)
        self.assertIs(Falling([0, 1]).shows(train=[2, 1], many=1), True)
        self.assertIs(Given([IN, OUT]).shows(order=[0]), True)

    def test_lists_are_copied(self):
        for made, fields in MADE:
            handed = copy.deepcopy(fields)
            answer = made(**handed)
            other = made(**handed)
            for name, value in handed.items():
                if isinstance(value, list):
                    self.assertIs(type(getattr(answer, name)), list)
                    self.assertIsNot(getattr(answer, name), value)
                    value.append(99)
                    getattr(other, name).clear()
            self.assertEqual(vars(answer), fields)

    def test_a_list_handed_in_twice(self):
        places = [0, 1, 2]
        answer = Odd(places, places)
        answer.places.clear()
        self.assertEqual((answer.shown, places), ([0, 1, 2], [0, 1, 2]))

    def test_lists_of_none_and_any_values(self):
        self.assertEqual(Shunted([]).moves, [])
        self.assertEqual(vars(Odd([], [HIGH])), {"places": [], "shown": [HIGH]})
        self.assertEqual(vars(Three(LOW, -1, HIGH)), {"first": LOW, "second": -1, "third": HIGH})


class TruthsAreNoNumbers(Saying):

    def test_as_places(self):
        self.check(False, Three(False, True, 2), [2, 3, 1])
        self.check(False, Thrice(False, True, 2), [2, 0, 1])
        self.check(False, Odd([False, True, 2], [3, 3, 3]), [1, 2, 3, 0])
        self.check(False, Falling([False, True]), [2, 1], 1)
        self.check(False, Fewest([IN, OUT], [False]), [7])

    def test_as_tracks(self):
        self.check(False, Shunted([("in", False), ("out", False)]), [7], True, 1)
        self.check(False, Fewest([("in", False), ("out", False)], [0]), [7])
        self.check(False, Given([("in", False), ("out", False)]), [0])


class ShuntedShows(Saying):

    def test_right_moves(self):
        self.check(True, Shunted([]), [], True, 1)
        self.check(True, Shunted([]), [], False, 5)
        self.check(True, Shunted(moves_of("i0 o0")), [7], True, 1)
        self.check(True, Shunted(moves_of("i0 i0 o0 o0")), [2, 1], True, 1)
        self.check(False, Shunted(moves_of("i0 i0 o0 o0")), [2, 1], False, 1)
        self.check(True, Shunted(moves_of("i0 i0 o0 o0")), [1, 2], False, 1)
        self.check(False, Shunted(moves_of("i0 i0 o0 o0")), [1, 2], True, 1)
        self.check(True, Shunted(moves_of("i0 i1 o1 o0")), [2, 1], False, 2)
        self.check(True, Shunted(moves_of("i0 i1 i0 o0 o0 o1")), [1, 2, 0], True, 2)

    def test_wagons_below_nought_and_very_large_ones(self):
        self.check(True, Shunted(moves_of("i0 i0 i0 o0 o0 o0")), [HIGH, -1, LOW], True, 1)
        self.check(True, Shunted(moves_of("i0 i0 i0 o0 o0 o0")), [LOW, -1, HIGH], False, 1)
        self.check(False, Shunted(moves_of("i0 i0 i0 o0 o0 o0")), [LOW, -1, HIGH], True, 1)

    def test_stuck_moves(self):
        for text in ("o0", "i0 i0", "i0 o0 o0", "o0 i0", "i0 o1", "i0 o0 i0", "o0 i0 o0", "i0 o0 o1", "i0 o1 o0"):
            for blind in (True, False):
                self.check(False, Shunted(moves_of(text)), [7], blind, 2)
                self.check(False, Shunted(moves_of(text)), [], blind, 2)

    def test_too_few_moves(self):
        right = moves_of("i0 i0 o0 o0")
        for count in range(4):
            self.check(False, Shunted(right[:count]), [2, 1], True, 1)

    def test_too_many_moves(self):
        for more in moves_of("i0 o0 i1 o1"):
            self.check(False, Shunted([IN, OUT, more]), [7], True, 2)
        self.check(False, Shunted([IN, OUT] * 100), [7], True, 1)

    def test_tracks_that_are_not_there(self):
        for track in (1, 2, -1, -2, HIGH, LOW):
            for blind in (True, False):
                self.check(False, Shunted([("in", track), ("out", track)]), [7], blind, 1)
                self.check(False, Shunted([IN, OUT, ("in", track), ("out", track)]), [7, 8], blind, 1)
                self.check(False, Shunted([IN, ("out", track)]), [7], blind, 1)

    def test_more_tracks_than_run_takes(self):
        for track in (100000, 10 ** 30, HIGH - 1):
            self.check(True, Shunted([("in", track), ("out", track)]), [7], True, HIGH)
        self.check(False, Shunted([("in", HIGH), ("out", HIGH)]), [7], True, HIGH)
        self.check(True, Shunted([IN, ("in", HIGH - 1), ("out", HIGH - 1), OUT]), [2, 1], False, HIGH)

    def test_other_words(self):
        for word in ("", "In", "OUT", "in ", " in", "up", "out\n", "0", "i"):
            self.check(False, Shunted([(word, 0), OUT]), [7], True, 1)
            self.check(False, Shunted([IN, (word, 0)]), [7], True, 1)
            self.check(False, Shunted([IN, OUT, (word, 0)]), [7], True, 1)
            self.check(False, Shunted([(word, 0)]), [], True, 1)

    def test_all_short_moves(self):
        choice = [("in", 0), ("in", 1), ("out", 0), ("out", 1)]
        counts = [[moves for moves in itertools.product(choice, repeat=count)] for count in range(7)]
        for train in short_trains(3):
            for moves in [list(each) for moves in counts[:2 * len(train) + 1] for each in moves]:
                for blind in (True, False):
                    wanted = leave_so(train, blind, 2, moves, sorted(train))
                    self.assertIs(Shunted(moves).shows(train, blind, 2), wanted, (train, blind, moves))

    def test_long_moves(self):
        train = list(range(100000))
        answer = Shunted([IN, OUT] * 100000)
        for blind in (True, False):
            self.assertIs(answer.shows(train, blind, 1), True)
        self.assertIs(answer.shows(train[:-1], True, 1), False)
        self.assertIs(answer.shows(train + [-1], True, 1), False)
        self.assertIs(Shunted([IN] * 100000 + [OUT] * 100000).shows(train, False, 1), True)
        self.assertIs(Shunted([IN] * 100000 + [OUT] * 100000).shows(train, True, 1), False)

    def test_fields_changed_behind(self):
        handed = [IN, OUT]
        answer = Shunted(handed)
        handed.append(OUT)
        self.check(True, answer, [7], True, 1)
        answer.moves.append(OUT)
        self.check(False, answer, [7], True, 1)
        answer.moves = [IN, IN, OUT, OUT]
        self.check(True, answer, [7, 6], True, 1)
        answer.moves[1] = ("in", 5)
        self.check(False, answer, [7, 6], True, 1)


class ThreeShows(Saying):

    def test_all_short_trains_and_places(self):
        for train in short_trains(4):
            for places in itertools.product(range(-2, len(train) + 2), repeat=3):
                within = all(0 <= place < len(train) for place in places)
                self.check(within and are_three(places, train), Three(*places), train)

    def test_places_of_any_size(self):
        for places in ((LOW, 1, 2), (0, 1, HIGH), (-3, -2, -1), (0, -2, 2), (HIGH, HIGH, HIGH), (3, 4, 5)):
            self.check(False, Three(*places), [2, 3, 1])

    def test_wagons_below_nought_and_very_large_ones(self):
        self.check(True, Three(0, 1, 2), [0, HIGH, LOW])
        self.check(True, Three(0, 2, 3), [-5, -9, -4, -6])
        self.check(False, Three(0, 1, 2), [0, LOW, HIGH])

    def test_fields_changed_behind(self):
        answer = Three(0, 1, 2)
        self.check(True, answer, [2, 3, 1])
        answer.third = 1
        self.check(False, answer, [2, 3, 1])
        answer.third = 3
        self.check(True, answer, [2, 3, 5, 1])
        answer.first = -4
        self.check(False, answer, [2, 3, 5, 1])


class OddShows(Saying):

    def test_rings(self):
        self.check(True, Odd([0, 1, 2], [3, 3, 3]), [1, 2, 3, 0])
        self.check(True, Odd([2, 0, 1], [3, 3, 3]), [1, 2, 3, 0])
        self.check(True, Odd([2, 1, 0], [3, 3, 3]), [1, 2, 3, 0])
        self.check(True, Odd([0, 1, 2, 3, 4], [5, 5, 5, 5, 5]), [1, 2, 3, 4, 5, 0])

    def test_longer_rings(self):
        for count in (5, 7, 21):
            train = ring_train(count)
            # The wagons of the ring in turn, and the last place of a wagon less than the earlier one of two.
            ring = [0] + [2 * each for each in range(1, count - 1)] + [1]
            shown = [max(place for place, wagon in enumerate(train) if wagon < train[min(one, other)])
                     for one, other in zip(ring, ring[1:] + ring[:1])]
            self.assertTrue(is_ring(ring, shown, train))
            self.check(True, Odd(ring, shown), train)
            self.check(True, Odd(ring[::-1], shown[-2::-1] + shown[-1:]), train)
            self.check(False, Odd(ring, shown[1:] + shown[:1]), train)
            self.check(False, Odd(ring[1:], shown[1:]), train)
            self.check(False, Odd(ring[2:], shown[2:]), train)

    def test_all_short_trains_and_places(self):
        for train in short_trains(4):
            if len(train) == 4:
                for places in itertools.product(range(-1, 5), repeat=3):
                    shown = [3, 3, 3]
                    within = all(0 <= place < 4 for place in places)
                    self.check(within and is_ring(places, shown, train), Odd(list(places), shown), train)

    def test_all_shown_places(self):
        train = [2, 3, 4, 0, 1]
        for shown in itertools.product(range(-1, 7), repeat=3):
            wanted = all(place in (3, 4) for place in shown)
            self.check(wanted, Odd([0, 1, 2], list(shown)), train)

    def test_a_wagon_that_is_less_than_one_of_two_alone(self):
        train = [1, 3, 4, 2, 0]
        self.check(True, Odd([0, 1, 2], [4, 4, 4]), train)
        self.check(True, Odd([0, 1, 2], [4, 3, 4]), train)
        self.check(False, Odd([0, 1, 2], [3, 3, 4]), train)
        self.check(False, Odd([0, 1, 2], [4, 4, 3]), train)

    def test_a_wagon_between_two_shows_nothing(self):
        train = [2, 3, 1, 4, 0]
        self.check(True, Odd([0, 1, 3], [4, 4, 4]), train)
        self.check(True, Odd([0, 1, 3], [2, 4, 4]), train)
        self.check(False, Odd([0, 1, 3], [2, 2, 4]), train)
        self.check(False, Odd([0, 1, 3], [2, 4, 2]), train)

    def test_rings_of_an_even_count(self):
        train = [1, 2, 3, 4, 0]
        self.check(True, Odd([0, 1, 2], [4, 4, 4]), train)
        self.check(False, Odd([0, 1, 2, 3], [4, 4, 4, 4]), train)
        self.check(False, Odd([0, 1], [4, 4]), train)
        self.check(False, Odd([], []), train)
        self.check(False, Odd([], []), [])

    def test_a_ring_of_one(self):
        self.check(False, Odd([0], [4]), [1, 2, 3, 4, 0])
        self.check(False, Odd([0], [0]), [0])

    def test_places_alike(self):
        train = [1, 2, 3, 4, 5, 0]
        self.check(False, Odd([0, 1, 0], [5, 5, 5]), train)
        self.check(False, Odd([0, 0, 0], [5, 5, 5]), train)
        self.check(False, Odd([0, 1, 2, 0, 1], [5] * 5), train)
        self.check(False, Odd([0, 1, 0, 1, 2], [5] * 5), train)

    def test_only_the_last_and_the_first_not_at_odds(self):
        train = [2, 1, 3, 0]
        self.check(False, Odd([0, 2, 1], [3, 3, 3]), train)

    def test_too_few_and_too_many_shown(self):
        for shown in ([], [3], [3, 3], [3, 3, 3, 3]):
            self.check(False, Odd([0, 1, 2], shown), [1, 2, 3, 0])

    def test_places_of_any_size(self):
        for place in (-1, -2, -4, 4, HIGH, LOW):
            self.check(False, Odd([0, 1, place], [3, 3, 3]), [1, 2, 3, 0])
            self.check(False, Odd([0, 1, 2], [3, place, 3]), [1, 2, 3, 0])
            self.check(False, Odd([place] * 100001, [place] * 100001), [1, 2, 3, 0])

    def test_fields_changed_behind(self):
        places, shown = [0, 1, 2], [3, 3, 3]
        answer = Odd(places, shown)
        places.clear()
        shown[0] = 0
        self.check(True, answer, [1, 2, 3, 0])
        answer.shown[0] = 2
        self.check(False, answer, [1, 2, 3, 0])
        answer.shown = [3, 3, 3]
        self.check(True, answer, [1, 2, 3, 0])
        answer.places.append(0)
        self.check(False, answer, [1, 2, 3, 0])


class FallingShows(Saying):

    def test_all_short_trains_and_places(self):
        for train in short_trains(3):
            for count in range(5):
                for places in itertools.product(range(-1, len(train) + 1), repeat=count):
                    within = all(0 <= place < len(train) for place in places)
                    for many in range(1, 4):
                        wanted = within and count == many + 1 and are_falling(places, train)
                        self.check(wanted, Falling(list(places)), train, many)

    def test_one_place_more_than_tracks(self):
        train = [5, 4, 3, 2, 1]
        for count in range(6):
            for many in range(1, 7):
                self.check(count == many + 1, Falling(list(range(count))), train, many)
        self.check(False, Falling([0, 1]), train, HIGH)

    def test_places_of_any_size(self):
        for places in ([0, HIGH], [LOW, 1], [-2, -1], [-5, 1], [0, 5], [1, 0], [1, 1]):
            self.check(False, Falling(places), [5, 4, 3, 2, 1], 1)

    def test_wagons_below_nought_and_very_large_ones(self):
        self.check(True, Falling([0, 1, 3]), [HIGH, -1, 0, LOW], 2)
        self.check(False, Falling([0, 1, 2]), [HIGH, -1, 0, LOW], 2)

    def test_long_trains(self):
        train = list(range(100000, 0, -1))
        places = list(range(100000))
        self.assertIs(Falling(places).shows(train, 99999), True)
        self.assertIs(Falling(places).shows(train[::-1], 99999), False)
        self.assertIs(Falling(places + [100000]).shows(train, 100000), False)

    def test_fields_changed_behind(self):
        places = [0, 1]
        answer = Falling(places)
        places.append(2)
        self.check(True, answer, [3, 2, 1], 1)
        self.check(False, answer, [3, 2, 1], 2)
        answer.places.append(2)
        self.check(False, answer, [3, 2, 1], 1)
        self.check(True, answer, [3, 2, 1], 2)


class FewestShows(Saying):

    def test_a_train_of_none(self):
        self.check(True, Fewest([], []), [])
        for moves, places in (([], [0]), ([IN], []), ([OUT], []), ([IN, OUT], []), ([IN, OUT], [0])):
            self.check(False, Fewest(moves, places), [])

    def test_one_wagon(self):
        self.check(True, Fewest([IN, OUT], [0]), [7])
        for moves, places in (([IN, OUT], []), ([IN, OUT], [0, 1]), ([], [0]), ([], []), ([IN, OUT], [1]),
                              ([IN, OUT], [-1]), ([("in", 1), ("out", 1)], [0]), ([IN, OUT], [0, 0]), ([IN], [0])):
            self.check(False, Fewest(moves, places), [7])

    def test_as_many_places_as_tracks(self):
        train = [3, 1, 2]
        self.check(True, Fewest(moves_of("i0 i1 i1 o1 o1 o0"), [0, 1]), train)
        self.check(True, Fewest(moves_of("i1 i0 i0 o0 o0 o1"), [0, 2]), train)
        self.check(False, Fewest(moves_of("i0 i1 i2 o1 o2 o0"), [0, 1]), train)
        self.check(False, Fewest(moves_of("i0 i2 i2 o2 o2 o0"), [0, 1]), train)
        self.check(False, Fewest(moves_of("i0 i1 i1 o1 o1 o0"), [0]), train)
        self.check(False, Fewest(moves_of("i0 i1 i1 o1 o1 o0"), [0, 1, 2]), train)
        self.check(False, Fewest(moves_of("i0 i1 i1 o1 o1 o0"), [1, 2]), train)
        self.check(False, Fewest(moves_of("i0 i1 i1 o1 o0 o1"), [0, 1]), train)
        self.check(False, Fewest(moves_of("i0 i1 i1 o1 o1"), [0, 1]), train)
        self.check(False, Fewest(moves_of("i0 i1 i1 o1 o1 o0 o0"), [0, 1]), train)

    def test_the_tracks_are_through_ones(self):
        self.check(True, Fewest(moves_of("i0 i0 o0 o0"), [0]), [1, 2])
        self.check(False, Fewest(moves_of("i0 i0 o0 o0"), [0]), [2, 1])

    def test_all_short_moves_and_places(self):
        choice = [("in", 0), ("in", 1), ("out", 0), ("out", 1)]
        for train in short_trains(2):
            for count in range(5):
                for moves in itertools.product(choice, repeat=count):
                    for places in ([], [0], [1], [0, 1], [1, 0], [0, 2]):
                        within = all(place < len(train) for place in places) and are_falling(places, train)
                        many = max(1, len(places))
                        goes = all(track < many for _, track in moves) and leave_so(
                            train, False, many, moves, sorted(train))
                        wanted = within and goes and (places != [] or train == [])
                        self.check(wanted, Fewest(list(moves), places), train)

    def test_other_words(self):
        self.check(False, Fewest([("In", 0), OUT], [0]), [7])

    def test_fields_changed_behind(self):
        moves, places = [IN, OUT], [0]
        answer = Fewest(moves, places)
        moves.clear()
        places.clear()
        self.check(True, answer, [7])
        answer.places.append(0)
        self.check(False, answer, [7])
        answer.places.pop()
        answer.moves.append(OUT)
        self.check(False, answer, [7])


class GivenShows(Saying):

    def test_all_short_moves(self):
        for order in short_trains(3):
            for count in range(8):
                for moves in itertools.product([IN, OUT], repeat=count):
                    wanted = leave_so(range(len(order)), True, 1, moves, order)
                    self.check(wanted, Given(list(moves)), order)

    def test_other_tracks_and_words(self):
        for move in (("in", 1), ("in", -1), ("out", 0), ("In", 0), ("", 0), ("in", HIGH)):
            self.check(False, Given([move, OUT]), [0])
        for move in (("out", 1), ("out", -1), ("in", 0), ("OUT", 0)):
            self.check(False, Given([IN, move]), [0])
        self.check(False, Given([("in", 1), ("out", 1)]), [0])

    def test_fields_changed_behind(self):
        moves = [IN, IN, OUT, OUT]
        answer = Given(moves)
        moves.pop()
        self.check(True, answer, [1, 0])
        self.check(False, answer, [0, 1])
        answer.moves = [IN, OUT, IN, OUT]
        self.check(True, answer, [0, 1])
        answer.moves.pop()
        self.check(False, answer, [0, 1])


class ThriceShows(Saying):

    def test_all_short_orders_and_places(self):
        for order in short_trains(4):
            for places in itertools.product(range(-2, len(order) + 2), repeat=3):
                within = all(0 <= place < len(order) for place in places)
                self.check(within and are_thrice(places, order), Thrice(*places), order)

    def test_places_of_any_size(self):
        for places in ((LOW, 1, 2), (0, 1, HIGH), (-3, -2, -1), (0, -2, 2), (HIGH, HIGH, HIGH)):
            self.check(False, Thrice(*places), [2, 0, 1])

    def test_fields_changed_behind(self):
        answer = Thrice(0, 1, 2)
        self.check(True, answer, [2, 0, 1])
        answer.second = 0
        self.check(False, answer, [2, 0, 1])
        answer.second = 1
        self.check(True, answer, [2, 0, 1])


if __name__ == "__main__":
    unittest.main()
