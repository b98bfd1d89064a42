"""The refusals: one base, and one class for each, none under another."""


class ThrongError(ValueError):
    pass


class Misfit(ThrongError):
    pass


class Twice(ThrongError):
    pass


class NoField(ThrongError):
    pass


class NoRule(ThrongError):
    pass


class NoWay(ThrongError):
    pass


class NoDoor(ThrongError):
    pass


class NoHouse(ThrongError):
    pass


class NoLine(ThrongError):
    pass


class BadWord(ThrongError):
    pass


class Unlike(ThrongError):
    pass
