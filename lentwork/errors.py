"""The refusals, one class each, so that an asker can take any one of them by its name."""


class LentError(ValueError):
    pass


class BadWork(LentError):
    pass


class BadPlace(LentError):
    pass


class Twice(LentError):
    pass


class BadBound(LentError):
    pass


class BadWorker(LentError):
    pass


class BadMoment(LentError):
    pass


class NoLending(LentError):
    pass


class Lost(LentError):
    pass


class BadTelling(LentError):
    pass


class Otherwise(LentError):
    pass


class NoPiece(LentError):
    pass


class BadCut(LentError):
    pass


class BadJoin(LentError):
    pass


class BadLine(LentError):
    pass


class NoText(LentError):
    pass


class Fallen(LentError):
    pass


class NoBook(LentError):
    pass


class Down(LentError):
    pass


class BadPlan(LentError):
    pass


class NoLine(LentError):
    pass
