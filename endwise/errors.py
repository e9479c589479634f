"""The refusals: one class for each, all straight under EndError."""


class EndError(ValueError):
    pass


class NoPath(EndError):
    pass


class NoText(EndError):
    pass


class NoRule(EndError):
    pass


class NoStep(EndError):
    pass


class NoPaper(EndError):
    pass


class NoHead(EndError):
    pass


class NoPair(EndError):
    pass


class NoReason(EndError):
    pass


class TooMany(EndError):
    pass


class TooGreat(EndError):
    pass


class TooLong(EndError):
    pass


class NoName(EndError):
    pass


class NoLine(EndError):
    pass
