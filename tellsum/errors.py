"""The refusals of the program, each a class of its own straight beneath SumError."""


class SumError(ValueError):
    pass


class BadTelling(SumError):
    pass


class NoFit(SumError):
    pass


class NoNumber(SumError):
    pass


class NoPlace(SumError):
    pass


class NotTwos(SumError):
    pass


class NoPast(SumError):
    pass


class NoText(SumError):
    pass


class NoRow(SumError):
    pass


class Unlike(SumError):
    pass
