"""The refusals of the program, one class each."""


class ClockError(ValueError):
    pass


class NoClock(ClockError):
    pass


class NoText(ClockError):
    pass


class NotApart(ClockError):
    pass
