"""The answers: each is either moves that do it or places that show that none can, and says whether it is right."""

from sidings.checks import checked_moves, has_two_alike, is_number
from sidings.errors import BadMoves, Stuck
from sidings.yards import Yard


def leave_so(coming, blind, many, moves, wanted):
    yard = Yard(coming, blind)
    try:
        yard.carry_out(checked_moves(moves, many))
    except BadMoves:
        return False
    except Stuck:
        return False
    return yard.left == wanted


def are_places(places, train):
    return all([is_number(place) and 0 <= place < len(train) for place in places])


def are_rising_places(places, train):
    return are_places(places, train) and all([ahead < place for ahead, place in zip(places, places[1:])])


def are_falling_wagons(places, train):
    if not are_rising_places(places, train):
        return False
    return all([train[place] < train[ahead] for ahead, place in zip(places, places[1:])])


def is_shown(one, other, shower, train):
    earlier = min(one, other)
    later = max(one, other)
    return later < shower and train[shower] < train[earlier] < train[later]


class Answer:
    pass


class Shunted(Answer):

    def __init__(self, moves):
        self.moves = list(moves)

    def shows(self, train, blind, many):
        return leave_so(train, blind, many, self.moves, sorted(train))


class Three(Answer):

    def __init__(self, first, second, third):
        self.first = first
        self.second = second
        self.third = third

    def shows(self, train):
        if not are_rising_places([self.first, self.second, self.third], train):
            return False
        return train[self.third] < train[self.first] < train[self.second]


class Odd(Answer):

    def __init__(self, places, shown):
        self.places = list(places)
        self.shown = list(shown)

    def shows(self, train):
        many = len(self.places)
        if many < 3 or many % 2 == 0 or len(self.shown) != many:
            return False
        if not are_places(self.places, train) or not are_places(self.shown, train) or has_two_alike(self.places):
            return False
        turned = self.places[1:] + self.places[:1]
        return all([is_shown(one, other, shower, train) for one, other, shower in zip(self.places, turned, self.shown)])


class Falling(Answer):

    def __init__(self, places):
        self.places = list(places)

    def shows(self, train, many):
        return len(self.places) == many + 1 and are_falling_wagons(self.places, train)


class Fewest(Answer):

    def __init__(self, moves, places):
        self.moves = list(moves)
        self.places = list(places)

    def shows(self, train):
        if not are_falling_wagons(self.places, train):
            return False
        # A train of none has no place but one track: each move is stuck there, so a yard of no track says the same.
        return leave_so(train, False, len(self.places), self.moves, sorted(train))


class Given(Answer):

    def __init__(self, moves):
        self.moves = list(moves)

    def shows(self, order):
        return leave_so(list(range(len(order))), True, 1, self.moves, order)


class Thrice(Answer):

    def __init__(self, first, second, third):
        self.first = first
        self.second = second
        self.third = third

    def shows(self, order):
        if not are_rising_places([self.first, self.second, self.third], order):
            return False
        return order[self.second] < order[self.third] < order[self.first]
