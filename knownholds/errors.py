"""The refusals of the program, one class for each."""


class HoldError(ValueError):
    pass


class NoSpot(HoldError):
    pass


class NoThing(HoldError):
    pass


class NoText(HoldError):
    pass


class NotFormed(HoldError):
    pass


class NoTable(HoldError):
    pass


class Faulty(HoldError):
    def __init__(self, f, at, p):
        self.f = f
        self.at = at
        self.p = p
