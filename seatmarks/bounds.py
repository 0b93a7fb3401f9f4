"""The check of numbers that are handed in."""

from seatmarks.errors import BadWide


def check_within(value, least, most):
    """Refuse with BadWide what is no whole number from least to most."""
    # The kind comes first: truths would pass as numbers, other kinds cannot be compared.
    # The value is not shown in the message, as it may be of any kind and size.
    if type(value) is not int or value < least or value > most:
        raise BadWide("no number within its bounds")
