"""Plain rules, which tell functions into the fractions, and their values. Only the checker uses this.

The values of the lines of a rule at a number are kept as a pair: their tops, and the bottom that they share.
"""

from math import gcd, lcm

from halverules.limits import PLAIN_LINES


class PlainRule:
    """The even rows and the odd rows, as a pair, the first values, and the row that is told.

    A row is a pair of the dict of the tops other than 0 by the index of the line, and the bottom that they share.
    """

    def __init__(self, halves, starts, answer):
        self.halves = halves
        self.starts = starts
        self.answer = answer


def is_whole(value):
    """Whether it is an integer."""
    return isinstance(value, int) and not isinstance(value, bool)


def is_row_of(value, many):
    """Whether it is a tuple of so many things."""
    return isinstance(value, tuple) and len(value) == many


def is_fraction(value):
    """Whether it is a fraction in lowest terms."""
    if not is_row_of(value, 2) or not is_whole(value[0]) or not is_whole(value[1]):
        return False
    return value[1] >= 1 and gcd(value[0], value[1]) == 1


def is_fraction_row(value, many):
    """Whether it is a row of so many fractions."""
    return is_row_of(value, many) and all([is_fraction(pair) for pair in value])


def is_between(value, low, high):
    """Whether it is an integer from low to high."""
    return is_whole(value) and low <= value <= high


def is_square(value, many):
    """Whether it is a tuple of so many rows of so many fractions."""
    return is_row_of(value, many) and all([is_fraction_row(row, many) for row in value])


def plain_in(value):
    """The plain rule that this is, None if it is none."""
    if not is_row_of(value, 4):
        return None
    even, odd, firsts, told = value
    if not isinstance(even, tuple) or len(even) > PLAIN_LINES:
        return None
    many = len(even)
    if not is_square(even, many) or not is_square(odd, many):
        return None
    if not is_row_of(firsts, many) or not all([is_whole(first) for first in firsts]) or not is_fraction_row(told, many):
        return None
    evens = [shared_row(row) for row in even]
    for (tops, bottom), first in zip(evens, firsts):
        if row_times(tops, firsts) != first * bottom:
            return None
    return PlainRule((evens, [shared_row(row) for row in odd]), firsts, shared_row(told))


def shared_row(fractions):
    """A row of fractions as the tops other than 0 and the bottom that they share."""
    shared = 1
    for _, bottom in fractions:
        shared = lcm(shared, bottom)
    return {at: top * (shared // bottom) for at, (top, bottom) in enumerate(fractions) if top != 0}, shared


def row_times(tops, values):
    """The sum of the tops times the values."""
    return sum([tops[at] * values[at] for at in tops])


def half_values(rule, values, digit):
    """The values of the lines at 2 n + digit, from those at n."""
    tops, bottom = values
    pairs = [lowest_terms(row_times(own, tops), under * bottom) for own, under in rule.halves[digit]]
    shared = 1
    for _, under in pairs:
        shared = lcm(shared, under)
    return [top * (shared // under) for top, under in pairs], shared


def lowest_terms(top, bottom):
    """The fraction in lowest terms."""
    common = gcd(top, bottom)
    return top // common, bottom // common


def values_at_all(rule, numbers):
    """The values of the lines at each of these ascending numbers, by the number."""
    known = {0: (rule.starts, 1)}
    for number in numbers:
        shift = 0
        while number >> shift not in known:
            shift += 1
        values = known[number >> shift]
        for at in reversed(range(shift)):
            values = half_values(rule, values, number >> at & 1)
        known[number] = values
    return known


def first_values(rule, many):
    """The values of the lines at so many first numbers."""
    known = [(rule.starts, 1)]
    for number in range(1, many):
        known.append(half_values(rule, known[number // 2], number % 2))
    return known[:many]


def told_value(rule, values):
    """The value of the function that is told, if its lines have these values: a top and a bottom."""
    tops, bottom = values
    own, under = rule.answer
    return row_times(own, tops), under * bottom


def adds_up_to_0(factors, pairs):
    """Whether the integers times the fractions, tops and bottoms, add up to 0."""
    shared = 1
    for _, bottom in pairs:
        shared = lcm(shared, bottom)
    return sum([factor * top * (shared // bottom) for factor, (top, bottom) in zip(factors, pairs)]) == 0
