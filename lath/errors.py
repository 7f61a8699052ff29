"""The refusals: each one a class of its own under LathError, none under another."""


class LathError(ValueError):
    pass


class NoRatio(LathError):
    pass


class NotARow(LathError):
    def __init__(self, at):
        LathError.__init__(self, f"no row: the entry at the place {at} is wrong")
        self.at = at


class NoWay(LathError):
    pass


class NoBound(LathError):
    pass


class TooFew(LathError):
    pass


class Closed(LathError):
    pass


class Settled(LathError):
    pass


class Taken(LathError):
    pass


class Missing(LathError):
    pass


class Full(LathError):
    pass


class NoPair(LathError):
    pass


class NoWord(LathError):
    pass


class NoLine(LathError):
    def __init__(self, at):
        LathError.__init__(self, f"the line at the place {at} is wrong")
        self.at = at
