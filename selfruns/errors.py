"""The refusals: one class for each, so that an asker can tell them apart."""


class RunError(ValueError):
    pass


class NoLetters(RunError):
    pass


class NoRow(RunError):
    pass


class NoLengths(RunError):
    pass


class NoSign(RunError):
    pass


class TooMany(RunError):
    pass


class BadText(RunError):
    pass
