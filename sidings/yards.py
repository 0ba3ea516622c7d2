"""Yards: moves carried out, and two trains made one."""

from sidings.checks import checked_blind, checked_many, checked_moves, checked_train
from sidings.errors import Stuck


class Track:

    def __init__(self, blind):
        self.blind = blind
        self.came = []
        # Counted, not taken off the list: that would shift all that stand behind.
        self.gone_ahead = 0

    def is_empty(self):
        return self.gone_ahead == len(self.came)

    def let_in(self, wagon):
        self.came.append(wagon)

    def let_out(self):
        if self.blind:
            return self.came.pop()
        wagon = self.came[self.gone_ahead]
        self.gone_ahead += 1
        return wagon

    def standing(self):
        return self.came[self.gone_ahead:]


def run(train, blind, many, moves):
    wagons = checked_train(train)
    is_blind = checked_blind(blind)
    count = checked_many(many)
    steps = checked_moves(moves, count)
    tracks = [Track(is_blind) for place in range(count)]
    left = []
    come = 0
    for at, step in enumerate(steps):
        track = tracks[step[1]]
        if step[0] == "in":
            if come == len(wagons):
                raise Stuck(at)
            track.let_in(wagons[come])
            come += 1
        else:
            if track.is_empty():
                raise Stuck(at)
            left.append(track.let_out())
    return (left, [each.standing() for each in tracks], wagons[come:])


def behind(one, other):
    ahead = ranks(checked_train(one))
    return ahead + [rank + len(ahead) for rank in ranks(checked_train(other))]


def ranks(wagons):
    in_order = sorted(range(len(wagons)), key=lambda place: wagons[place])
    ranked = [0] * len(wagons)
    for rank, place in enumerate(in_order):
        ranked[place] = rank
    return ranked
