"""The refusals: one class each, all of them under PoolError."""


class PoolError(ValueError):
    pass


class NoLine(PoolError):
    pass


class NoKind(PoolError):
    pass


class BadArgs(PoolError):
    pass


class NoFact(PoolError):
    pass


class Twice(PoolError):
    pass


class BadTake(PoolError):
    pass


class BadCall(PoolError):
    pass


class NoName(PoolError):
    pass


class NoStep(PoolError):
    pass


class NotFitting(PoolError):
    pass


class TooGreat(PoolError):
    pass


class NoFall(PoolError):
    pass


class NoPool(PoolError):
    pass
