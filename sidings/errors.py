"""The refusals, each of a class of its own."""


class YardError(ValueError):
    pass


class BadTrain(YardError):
    pass


class BadYard(YardError):
    pass


class BadMoves(YardError):
    pass


class Stuck(YardError):

    def __init__(self, at):
        YardError.__init__(self, f"the move at place {at} is stuck")
        self.at = at


class BadText(YardError):
    pass
