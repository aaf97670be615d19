"""A first look at the rank of a mix of lines, modulo a prime.

Values that are no combinations of others modulo a prime are none by fractions either, so a rank that is found here is
never greater than the true one. The numbers stay small, so that it is found soon.
"""

from halverules.limits import RANK
from halverules.lines import half_mix, line_rests, mix_rests, next_values, stepped_values

PRIME = 1073741789


def rank_bound(lines, mix):
    """An integer that the rank of the mix is not less than, RANK + 1 if it is known to be greater than RANK."""
    small = line_rests(lines, PRIME)
    rows = some_parts(small, mix_rests(mix, PRIME))
    return column_rank(small, rows)


def rest_by(vector, echelon):
    """A multiple of the vector less multiples of those of the echelon, and the first index at which it is not 0."""
    for pivot, other in echelon:
        minus = vector[pivot]
        if minus != 0:
            times = other[pivot]
            vector = [(times * worth - minus * more) % PRIME for worth, more in zip(vector, other)]
    for at, worth in enumerate(vector):
        if worth != 0:
            return vector, at
    return vector, None


def some_parts(lines, mix):
    """Mixes of parts of the mix that are no combinations of one another; all are combinations, if there are few."""
    width = len(lines.starts)
    echelon = []
    parts = []
    waiting = [mix]
    at = 0
    # So many parts nearly always show a rank that is too great; where they do not, the rank is found elsewhere.
    while at < len(waiting) and len(parts) < 2 * RANK:
        part = waiting[at]
        at += 1
        rest, pivot = rest_by([part.get(to, 0) for to in range(width)], echelon)
        if pivot is not None:
            echelon.append((pivot, rest))
            parts.append(part)
            waiting.append(mix_rests(half_mix(lines, part, 0), PRIME))
            waiting.append(mix_rests(half_mix(lines, part, 1), PRIME))
    return parts


def column_rank(lines, parts):
    """How many rows of values of these parts at one number are no combinations of one another, RANK + 1 at most."""
    echelon = []
    waiting = [(lines.starts, None)]
    at = 0
    while at < len(waiting) and len(echelon) <= RANK:
        values, digit = waiting[at]
        at += 1
        if digit is not None:
            values = [worth % PRIME for worth in next_values(lines, values, digit)]
        rest, pivot = rest_by([worth % PRIME for worth in stepped_values(parts, values)], echelon)
        if pivot is not None:
            echelon.append((pivot, rest))
            waiting.append((values, 0))
            waiting.append((values, 1))
    return len(echelon)
