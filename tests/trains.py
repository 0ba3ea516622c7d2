"""Trains for the tests, and what the document says of moves and places, each looked up the slow and plain way."""

import itertools

from sidings.yards import run

LOW, HIGH = -10 ** 5000, 10 ** 5000


def short_trains(most):
    """All orders of up to so many wagons, from 0 on."""
    return [list(each) for count in range(most + 1) for each in itertools.permutations(range(count))]


def far_apart(train):
    """The train with wagons below 0 and very large ones in the same order of size."""
    in_order = sorted(train)
    sizes = {wagon: (place - len(train) // 2) * 10 ** 400 for place, wagon in enumerate(in_order)}
    return [sizes[wagon] for wagon in train]


def numbers(seed):
    """Numbers below 2 ** 31 without an end, the same for the same seed."""
    state = seed * 7919 + 12345
    while True:
        state = (state * 6364136223846793005 + 1442695040888963407) % 2 ** 64
        yield state >> 33


def mixed(count, seed):
    drawn = numbers(seed)
    keys = [next(drawn) for _ in range(count)]
    return sorted(range(count), key=lambda wagon: (keys[wagon], wagon))


def through_blind(count, many, seed):
    """A train that blind tracks bring out in order: wagons are numbered as they leave after moves drawn by chance."""
    drawn = numbers(seed)
    train, tracks, come, left = [0] * count, [[] for _ in range(many)], 0, 0
    while left < count:
        track = tracks[next(drawn) % many]
        if come < count and (next(drawn) % 2 or not any(tracks)):
            track.append(come)
            come += 1
        elif track:
            train[track.pop()] = left
            left += 1
    return train


def rising_runs(count, many, seed):
    """A train that so many through tracks bring out in order: rising runs, shuffled into one another."""
    drawn = numbers(seed)
    tracks = [next(drawn) % many for _ in range(count)]
    runs = [iter([wagon for wagon in range(count) if tracks[wagon] == track]) for track in range(many)]
    return [next(runs[track]) for track in shuffled(tracks, seed + 1)]


def shuffled(values, seed):
    return [values[place] for place in mixed(len(values), seed)]


def ring_train(count):
    """A train whose only ring of wagons at odds has so many places.

    Wagons of the ring come and leave so that each is at odds with its two neighbours alone; ahead of each that
    leaves comes one that leaves at once, less than it, and so keeps it waiting until then.
    """
    events = [("come", 0), ("come", count - 1)]
    for each in range(1, count - 1):
        events += [("come", each), ("leave", each - 1)]
    events += [("leave", count - 1), ("leave", count - 2)]
    came, left = [], []
    for event, each in events:
        if event == "leave":
            came.append(("ahead of", each))
            left.append(("ahead of", each))
            left.append(each)
        else:
            came.append(each)
    turns = {each: turn for turn, each in enumerate(left)}
    return [turns[each] for each in came]


def moves_of(text):
    """`i0 o1` as [("in", 0), ("out", 1)]."""
    words = {"i": "in", "o": "out"}
    return [(words[each[0]], int(each[1:])) for each in text.split()]


def slow_run(train, blind, many, moves):
    """What `run` tells, straight from the words of the document; the place of a stuck move alone."""
    coming, tracks, left = list(train), [[] for _ in range(many)], []
    for at, (word, track) in enumerate(moves):
        source = coming if word == "in" else tracks[track]
        if not source:
            return at
        if word == "in":
            tracks[track].append(coming.pop(0))
        else:
            left.append(tracks[track].pop(-1 if blind else 0))
    return (left, tracks, coming)


def searched_moves(train, many):
    """Moves that bring the train out in order through blind tracks, or None; every way is tried."""
    wanted = sorted(train)

    def search(come, tracks, left, moves):
        for place, track in enumerate(tracks):
            if track and track[-1] == wanted[left]:
                fewer = tracks[:place] + (track[:-1],) + tracks[place + 1:]
                return search(come, fewer, left + 1, moves + [("out", place)])
        if left == len(train):
            return moves
        if come == len(train):
            return None
        for place, track in enumerate(tracks):
            more = tracks[:place] + (track + (train[come],),) + tracks[place + 1:]
            found = search(come + 1, more, left, moves + [("in", place)])
            if found is not None:
                return found
        return None

    return search(0, ((),) * many, 0, [])


def most_falling(train):
    """The greatest count of wagons of which each is less than the one ahead."""
    counts = []
    for place, wagon in enumerate(train):
        counts.append(1 + max([counts[ahead] for ahead in range(place) if train[ahead] > wagon], default=0))
    return max(counts, default=0)


def brings_out(train, blind, many, moves):
    return run(train, blind, many, moves) == (sorted(train), [[] for _ in range(many)], [])


def are_rising(places, train):
    return all(type(each) is int for each in places) and all(
        first < second for first, second in zip([-1, *places], [*places, len(train)]))


def are_falling(places, train):
    wagons = [train[place] for place in places]
    return are_rising(places, train) and wagons == sorted(wagons, reverse=True)


def are_three(places, train):
    first, second, third = [train[place] for place in places]
    return are_rising(places, train) and first < second and third < first and third < second


def are_thrice(places, order):
    first, second, third = [order[place] for place in places]
    return are_rising(places, order) and first > second and first > third and second < third


def are_at_odds(one, other, shower, train):
    earlier, later = sorted([one, other])
    return (are_rising([earlier, later, shower], train) and train[earlier] < train[later]
            and train[shower] < train[earlier] and train[shower] < train[later])


def is_ring(places, shown, train):
    if len(places) < 3 or len(places) % 2 == 0 or len(set(places)) < len(places) or len(shown) != len(places):
        return False
    return all(are_at_odds(places[at], places[(at + 1) % len(places)], shown[at], train) for at in range(len(places)))
