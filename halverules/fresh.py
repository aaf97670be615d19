"""The new numbers of functions: those at which their values are no combination of the values at lesser numbers."""

from halverules.lines import next_values, sum_of
from halverules.modular import PRIME, rest_by
from halverules.rows import least_index, reduced, sparse


def fresh_numbers(lines, apart):
    """The pairs of a new number of all lines and their values at it, up to the first at which the mix `apart` is not 0.

    The lines of a function are combinations of its parts, and these of them, so both have the same new numbers.
    """
    small = []
    exact = []
    found = []
    # Each number waits with the values at its half.
    waiting = [(0, lines.starts)]
    at = 0
    while at < len(waiting) and len(found) < len(lines.starts):
        number, values = waiting[at]
        at += 1
        if number > 0:
            values = next_values(lines, values, number % 2)
        # What is no combination modulo a prime is none by fractions either, if this held for all found so far.
        rest, pivot = rest_by([worth % PRIME for worth in values], small)
        if pivot is not None and len(small) == len(found):
            small.append((pivot, rest))
        else:
            exact = widened_echelon(exact, [row for _, row in found[len(exact):]])
            if not reduced(sparse(values), exact):
                continue
        found.append((number, values))
        if sum_of(apart, values) != 0:
            break
        for digit in (0, 1):
            # The number 0 is twice itself.
            if number + digit > 0:
                waiting.append((2 * number + digit, values))
    return found


def widened_echelon(echelon, further):
    """The echelon with further rows of values behind it, which are no combinations of earlier ones."""
    wide = list(echelon)
    for values in further:
        rest = reduced(sparse(values), wide)
        wide.append((least_index(rest, len(values)), rest))
    return wide
