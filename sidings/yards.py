"""Yards: moves carried out, and two trains made one."""

from sidings.checks import checked_blind, checked_many, checked_moves, checked_train
from sidings.errors import Stuck


class Track:

    def __init__(self, blind):
        self.blind = blind
        self.came = []
        # Counted, not taken off the list: that would shift all that stand behind.
        self.gone_ahead = 0

    def is_empty(self):
        return self.gone_ahead == len(self.came)

    def let_in(self, wagon):
        self.came.append(wagon)

    def let_out(self):
        if self.blind:
            return self.came.pop()
        wagon = self.came[self.gone_ahead]
        self.gone_ahead += 1
        return wagon

    def standing(self):
        return self.came[self.gone_ahead:]


class Yard:

    def __init__(self, wagons, blind):
        self.wagons = wagons
        self.blind = blind
        self.come = 0
        self.left = []
        # A track is made when its first wagon comes: a yard may have far more tracks than moves.
        self.tracks = {}

    def carry_out(self, steps):
        for at, step in enumerate(steps):
            if step[0] == "in":
                self.carry_in(at, step[1])
            else:
                self.carry_away(at, step[1])

    def carry_in(self, at, place):
        if self.come == len(self.wagons):
            raise Stuck(at)
        if place not in self.tracks:
            self.tracks[place] = Track(self.blind)
        self.tracks[place].let_in(self.wagons[self.come])
        self.come += 1

    def carry_away(self, at, place):
        if place not in self.tracks or self.tracks[place].is_empty():
            raise Stuck(at)
        self.left.append(self.tracks[place].let_out())

    def standing_on(self, place):
        return self.tracks[place].standing() if place in self.tracks else []


def run(train, blind, many, moves):
    wagons = checked_train(train)
    is_blind = checked_blind(blind)
    count = checked_many(many)
    steps = checked_moves(moves, count)
    yard = Yard(wagons, is_blind)
    yard.carry_out(steps)
    return (yard.left, [yard.standing_on(place) for place in range(count)], wagons[yard.come:])


def behind(one, other):
    ahead = ranks(checked_train(one))
    return ahead + [rank + len(ahead) for rank in ranks(checked_train(other))]


def ranks(wagons):
    ranked = [0] * len(wagons)
    for rank, place in enumerate(places_in_order(wagons)):
        ranked[place] = rank
    return ranked


def places_in_order(wagons):
    return sorted(range(len(wagons)), key=lambda place: wagons[place])
