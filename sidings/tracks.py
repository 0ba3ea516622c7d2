"""Of each train and its tracks: moves that bring it out in order, or wagons that show that there are none."""

from sidings.answers import Falling, Fewest, Given, Odd, Shunted, Three, Thrice
from sidings.checks import checked_count, checked_order, checked_train
from sidings.odds import forest_at_odds
from sidings.shunting import last_lesser, shunted_blind
from sidings.yards import places_in_order


def one_blind(train):
    return through_one_blind(checked_train(train))


def through_one_blind(wagons):
    leaving = places_in_order(wagons)
    shunting = shunted_blind(leaving, [0] * len(wagons), 1)
    if shunting.is_done():
        return Shunted(shunting.moves)
    first = shunting.covered()
    return Three(first, shunting.cover(), last_lesser(leaving)[first])


def two_blind(train):
    wagons = checked_train(train)
    leaving = places_in_order(wagons)
    forest = forest_at_odds(wagons, leaving)
    shunting = shunted_blind(leaving, [depth % 2 for depth in forest.depths], 2)
    if shunting.is_done():
        return Shunted(shunting.moves)
    # Both ends have one track, so the path between them has an odd count of places, and they are at odds too.
    ring = forest.path(shunting.covered(), shunting.cover())
    lasts = last_lesser(leaving)
    return Odd(ring, [lasts[min(one, other)] for one, other in zip(ring, ring[1:] + ring[:1])])


def through(train, many):
    wagons = checked_train(train)
    count = checked_count(many)
    tracks = tracks_through(wagons)
    if count in tracks:
        return Falling(falling_to(tracks, count))
    return Shunted(moves_through(wagons, tracks))


def fewest(train):
    wagons = checked_train(train)
    tracks = tracks_through(wagons)
    return Fewest(moves_through(wagons, tracks), falling_to(tracks, max(tracks, default=-1)))


def tracks_through(wagons):
    # Each wagon goes onto the first track whose last wagon is less: on the track ahead a greater one came last.
    tracks = []
    last_ones = []
    for wagon in wagons:
        track = first_of_a_lesser(last_ones, wagon)
        if track == len(last_ones):
            last_ones.append(wagon)
        else:
            last_ones[track] = wagon
        tracks.append(track)
    return tracks


def first_of_a_lesser(falling, wagon):
    low = 0
    high = len(falling)
    while low < high:
        middle = (low + high) // 2
        if falling[middle] < wagon:
            high = middle
        else:
            low = middle + 1
    return low


def moves_through(wagons, tracks):
    return [("in", track) for track in tracks] + [("out", tracks[place]) for place in places_in_order(wagons)]


def falling_to(tracks, track):
    # From a wagon on the track back, each time to the one that came last onto the track ahead: it is greater.
    places = []
    wanted = track
    for place in range(len(tracks) - 1, -1, -1):
        if tracks[place] == wanted:
            places.append(place)
            wanted -= 1
    return list(reversed(places))


def arranged(order):
    # For wagons 0, 1, 2 and so on the place of each in the order: if they come under these numbers, they leave rising.
    turns = places_in_order(checked_order(order))
    answer = through_one_blind(turns)
    if isinstance(answer, Shunted):
        return Given(answer.moves)
    return Thrice(turns[answer.third], turns[answer.first], turns[answer.second])
