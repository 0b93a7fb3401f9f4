"""The refusals of the package."""


class SeatError(ValueError):
    """Every refusal of the package is one of these."""


class BadWide(SeatError):
    """A width, level, mark or count is no number within its bounds."""


class NoThing(SeatError):
    """No thing of this number stands in the row."""


class TooMany(SeatError):
    """The row has as many things as it may have at a time."""


class Full(SeatError):
    """There is no stretch that could be spread for one more thing."""
