"""The refusals: each stands straight under BellError, none under another one."""


class BellError(ValueError):
    pass


class NoRow(BellError):
    pass


class NoReading(BellError):
    pass


class TooGreat(BellError):
    pass


class TooMany(BellError):
    pass


class NoNote(BellError):
    pass


class NoOrder(BellError):
    pass


class NoName(BellError):
    pass
