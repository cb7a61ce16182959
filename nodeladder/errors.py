"""The refusals of the program, each under LadderError."""


class LadderError(ValueError):
    pass


class NoMap(LadderError):
    pass


class NoOrder(LadderError):
    pass


class NoWay(LadderError):
    pass


class NoArc(LadderError):
    pass


class NoPlace(LadderError):
    pass


class NoRoad(LadderError):
    pass


class NoLength(LadderError):
    pass


class NoDeed(LadderError):
    pass


class NoText(LadderError):
    pass


class NoRow(LadderError):
    pass
