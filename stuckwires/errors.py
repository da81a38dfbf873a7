"""The refusals of the program."""


class StuckError(ValueError):
    pass


class NoWorks(StuckError):
    pass


class NoRow(StuckError):
    pass


class NoFault(StuckError):
    pass


class NoText(StuckError):
    pass


class NoOrder(StuckError):
    pass


class TooMany(StuckError):
    pass
