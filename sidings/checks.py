"""Checks of what is handed in: each answers a plain copy of it, or refuses it.

The words of a refusal don't show the value: it may be of any kind, and one that can't be shown
would bring up another error in the refusal's place.

A list, tuple, text or number may be of a class of its own that walks, compares or counts otherwise.
Adding to an empty one, joining, and int look at what it holds, and what they make is plain.
"""

from sidings.errors import BadMoves, BadText, BadTrain, BadYard

MOST_TRACKS = 100000
WORDS = ("in", "out")


def is_number(value):
    return isinstance(value, int) and not isinstance(value, bool)


def checked_train(train):
    if not isinstance(train, list):
        raise BadTrain("a train is a list")
    held = [] + train
    for wagon in held:
        if not is_number(wagon):
            raise BadTrain("a wagon is a whole number")
    wagons = [int(wagon) for wagon in held]
    if has_two_alike(wagons):
        raise BadTrain("no two wagons of a train are alike")
    return wagons


def has_two_alike(wagons):
    # Sorted, not kept in a dict: unlike numbers that share a hash would make a dict slow.
    in_order = sorted(wagons)
    return any([less == greater for less, greater in zip(in_order, in_order[1:])])


def checked_order(order):
    wagons = checked_train(order)
    if sorted(wagons) != list(range(len(wagons))):
        raise BadTrain("an order is of the wagons 0, 1, 2 and so on")
    return wagons


def checked_blind(blind):
    if blind is not True and blind is not False:
        raise BadYard("blind is True or False")
    return blind


def checked_count(many):
    if not is_number(many):
        raise BadYard("the count of tracks is a whole number")
    count = int(many)
    if count < 1:
        raise BadYard("a yard has 1 track or more")
    return count


def checked_many(many):
    count = checked_count(many)
    if count > MOST_TRACKS:
        raise BadYard("a yard that is run has 100000 tracks at the most")
    return count


def checked_moves(moves, many):
    if not isinstance(moves, list):
        raise BadMoves("moves are a list")
    return [checked_move(move, many) for move in [] + moves]


def checked_move(move, many):
    if not isinstance(move, tuple):
        raise BadMoves("a move is a tuple")
    pair = () + move
    if len(pair) != 2:
        raise BadMoves("a move is a pair")
    return (checked_word(pair[0]), checked_track(pair[1], many))


def checked_word(word):
    if not isinstance(word, str):
        raise BadMoves("a move begins with a text")
    plain = "".join([word])
    if plain not in WORDS:
        raise BadMoves("a move is in or out")
    return plain


def checked_track(track, many):
    if not is_number(track):
        raise BadMoves("a track is told by a whole number")
    place = int(track)
    if place < 0 or place >= many:
        raise BadMoves("there is no such track")
    return place


def checked_text(text):
    if not isinstance(text, str):
        raise BadText("what is read is a text")
    return "".join([text])
