"""The refusals: each is a ChanceError, and none stands under another one."""


class ChanceError(ValueError):
    pass


class NoNumber(ChanceError):
    pass


class NoRow(ChanceError):
    pass


class NoRule(ChanceError):
    pass


class NoAnswer(ChanceError):
    pass


class NoText(ChanceError):
    pass


class NoName(ChanceError):
    pass


class NoHouse(ChanceError):
    pass


class NoWord(ChanceError):
    pass
