"""Trains as texts."""

from sidings.checks import checked_text, checked_train, has_two_alike
from sidings.errors import BadText, BadTrain

MOST = 999999
MOST_FIGURES = 6
FIGURES = "0123456789"


def written(train):
    wagons = checked_train(train)
    for wagon in wagons:
        if abs(wagon) > MOST:
            raise BadTrain("a wagon that is written is from -999999 to 999999")
    return " ".join([str(wagon) for wagon in wagons])


def read(text):
    plain = checked_text(text)
    if plain == "":
        return []
    wagons = [read_wagon(word) for word in plain.split(" ")]
    if has_two_alike(wagons):
        raise BadText("no two wagons of a train are alike")
    return wagons


def read_wagon(word):
    figures = word[1:] if word.startswith("-") else word
    if len(figures) < 1 or len(figures) > MOST_FIGURES:
        raise BadText("a wagon has 1 to 6 figures, with one blank between wagons")
    if any([sign not in FIGURES for sign in figures]):
        raise BadText("a wagon is written in figures, with - ahead of those below 0")
    if figures.startswith("0") and word != "0":
        raise BadText("a wagon has no needless nought")
    return int(word)
