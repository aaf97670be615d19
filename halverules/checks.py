"""Which values are integers, rows and functions, as the document means them."""

from halverules.errors import InvalidRule, InvalidValues
from halverules.limits import ENTRY, LARGEST, NAME

LETTERS = "abcdefghijklmnopqrstuvwxyz"


def is_integer(value):
    """Whether it is an integer."""
    # For Python True and False are integers, for the document they are none.
    return isinstance(value, int) and not isinstance(value, bool)


def is_between(value, low, high):
    """Whether it is an integer from low to high."""
    return is_integer(value) and low <= value <= high


def is_number(value):
    """Whether it is a number at which a function may be asked."""
    return is_between(value, 0, LARGEST)


def is_entry(value):
    """Whether it is an integer that may stand in a rule."""
    return is_between(value, -ENTRY, ENTRY)


def is_row(value, width):
    """Whether it is a tuple of so many integers that may stand in a rule."""
    return isinstance(value, tuple) and len(value) == width and all([is_entry(entry) for entry in value])


def check_entries(value, width):
    """InvalidValues if it is no tuple of so many integers that may stand in a rule."""
    if not isinstance(value, tuple) or len(value) != width:
        raise InvalidValues(None)
    for at, entry in enumerate(value):
        if not is_entry(entry):
            raise InvalidValues(at)


def check_rows(value, width):
    """InvalidRule if it is no tuple of as many such rows as they are wide."""
    if not isinstance(value, tuple) or len(value) != width:
        raise InvalidRule(None)
    for at, row in enumerate(value):
        if not is_row(row, width):
            raise InvalidRule(at)


def is_name(value):
    """Whether it is a name: letters from a to z, and not too many."""
    if not isinstance(value, str) or not 1 <= len(value) <= NAME:
        return False
    return all([letter in LETTERS for letter in value])
