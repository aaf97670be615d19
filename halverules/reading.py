"""Integers that are read from texts."""

DIGITS = "0123456789"

# Python does not read or write integers of many more digits.
MOST_DIGITS = 4000


def integer_in(word):
    """The integer that is written so, None if the word is not its digits alone, with - ahead if it is less than 0."""
    digits = word.removeprefix("-")
    if not 1 <= len(digits) <= MOST_DIGITS or not all([digit in DIGITS for digit in digits]):
        return None
    number = int(word)
    # Leading zeros and -0 are left out.
    return number if str(number) == word else None


def small_integer_in(word, most):
    """The integer from -most to most that is written so, None if there is none."""
    number = integer_in(word)
    if number is None or not -most <= number <= most:
        return None
    return number
