"""Wagons through blind tracks that are chosen for them, and those that stand in the way.

Wagons are told by their places; `leaving` is the places in the order in which the wagons leave.
"""


class Shunting:

    def __init__(self, leaving, tracks, many):
        self.leaving = leaving
        self.tracks = tracks
        self.stacks = [[] for track in range(many)]
        self.gone = 0
        self.moves = []

    def let_all_come(self):
        for place, track in enumerate(self.tracks):
            self.stacks[track].append(place)
            self.moves.append(("in", track))
            self.let_those_leave_that_can()

    def let_those_leave_that_can(self):
        while not self.is_done():
            wanted = self.leaving[self.gone]
            track = self.tracks[wanted]
            if self.stacks[track][-1:] != [wanted]:
                return
            self.stacks[track].pop()
            self.moves.append(("out", track))
            self.gone += 1

    def is_done(self):
        return self.gone == len(self.leaving)

    def covered(self):
        return self.leaving[self.gone]

    def cover(self):
        # It came while a lesser wagon than the covered one was still to come, or that one would have left
        # ahead of it. So these two are at odds, and can't share a track.
        stack = self.stacks[self.tracks[self.covered()]]
        return stack[stack.index(self.covered()) + 1]


def shunted_blind(leaving, tracks, many):
    shunting = Shunting(leaving, tracks, many)
    shunting.let_all_come()
    return shunting


def last_lesser(leaving):
    # For each place the last place of a lesser wagon, which shows that one at odds with another if any wagon does.
    lasts = [-1] * len(leaving)
    last = -1
    for place in leaving:
        lasts[place] = last
        last = max(last, place)
    return lasts
