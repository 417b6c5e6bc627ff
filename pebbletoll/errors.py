"""The refusals, each of a class of its own straight under TollError."""


class TollError(ValueError):
    pass


class BadWeb(TollError):
    pass


class NoPlace(TollError):
    pass


class NoRoad(TollError):
    pass


class BadLaying(TollError):
    pass


class BadWish(TollError):
    pass


class TooMany(TollError):
    pass


class NoNumber(TollError):
    pass


class NoWorst(TollError):
    pass


class NoDeed(TollError):
    pass


class BadStep(TollError):
    def __init__(self, at):
        TollError.__init__(self, at)
        self.at = at


class BadText(TollError):
    def __init__(self, at):
        TollError.__init__(self, at)
        self.at = at
