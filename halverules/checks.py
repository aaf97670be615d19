"""Which values are integers, as the document means them."""

from halverules.limits import LARGEST


def is_integer(value):
    """Whether it is an integer."""
    # For Python True and False are integers, for the document they are none.
    return isinstance(value, int) and not isinstance(value, bool)


def is_between(value, low, high):
    """Whether it is an integer from low to high."""
    return is_integer(value) and low <= value <= high


def is_number(value):
    """Whether it is a number at which a function may be asked."""
    return is_between(value, 0, LARGEST)
