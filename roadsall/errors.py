"""The refusals of the program, each under RoadError alone."""


class RoadError(ValueError):
    pass


class NoText(RoadError):
    def __init__(self, place):
        self.place = place


class NoPlan(RoadError):
    pass


class NoLine(RoadError):
    def __init__(self, line):
        self.line = line


class NoDeed(RoadError):
    pass


class NotPossible(RoadError):
    def __init__(self, place):
        self.place = place


class TooMany(RoadError):
    pass


class NoFact(RoadError):
    pass


class NoRow(RoadError):
    pass


class NoThing(RoadError):
    pass
