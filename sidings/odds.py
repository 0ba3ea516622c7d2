"""Wagons at odds, as a forest.

There may be far more pairs at odds than wagons. A forest holds few of them: each two neighbours of a tree are
at odds, and each two wagons at odds are in one tree. If two blind tracks will do, neighbours stand on unlike
ones, so the depths in a tree tell the one choice there is, but for the two tracks changing places.
"""


class Forest:

    def __init__(self, neighbours):
        self.neighbours = neighbours
        self.depths = [-1] * len(neighbours)
        self.parents = [-1] * len(neighbours)

    def grow(self):
        for root in range(len(self.neighbours)):
            if self.depths[root] == -1:
                self.depths[root] = 0
                self.grow_from(root)

    def grow_from(self, root):
        reached = [root]
        while reached:
            place = reached.pop()
            for other in self.neighbours[place]:
                if self.depths[other] == -1:
                    self.depths[other] = self.depths[place] + 1
                    self.parents[other] = place
                    reached.append(other)

    def path(self, one, other):
        from_one = [one]
        from_other = [other]
        while from_one[-1] != from_other[-1]:
            if self.depths[from_one[-1]] >= self.depths[from_other[-1]]:
                from_one.append(self.parents[from_one[-1]])
            else:
                from_other.append(self.parents[from_other[-1]])
        return from_one + list(reversed(from_other[:-1]))


class Groups:
    # The wagons that stand, in groups, those of a tree in one. A wagon that leaves is at odds with all that came
    # behind it and still stand, so it makes the last groups one, and each group comes wholly behind the one ahead.

    def __init__(self, wagons):
        self.wagons = wagons
        self.neighbours = [[] for wagon in wagons]
        # Of each group the first place and the place of the greatest wagon, which stands as long as any does.
        self.pairs = []

    def let_come(self, place):
        self.pairs.append((place, place))

    def let_leave(self, place):
        greatest = place
        while self.pairs[-1][0] > place:
            other = self.pairs.pop()[1]
            self.neighbours[place].append(other)
            self.neighbours[other].append(place)
            greatest = self.greater(greatest, other)
        own = self.pairs.pop()
        greatest = self.greater(greatest, own[1])
        if greatest != place:
            self.pairs.append((own[0], greatest))

    def greater(self, one, other):
        return one if self.wagons[one] > self.wagons[other] else other


def forest_at_odds(wagons, leaving):
    groups = Groups(wagons)
    gone = 0
    for place in range(len(wagons)):
        groups.let_come(place)
        while gone < len(leaving) and leaving[gone] <= place:
            groups.let_leave(leaving[gone])
            gone += 1
    forest = Forest(groups.neighbours)
    forest.grow()
    return forest
