"""Spans: numbers at which the values of lines tell those at all others. Only the checker uses this."""

from math import lcm

from halverules.limits import SPAN
from halverules.plain import is_fraction_row, is_row_of, is_whole, values_at_all

ZERO = (0, 1)


def values_in_span(value, rules, end):
    """For each rule the values of its lines at the numbers of a span for these rules, by the number.

    None if the value is no such span up to the end, or, if this is None, without one.
    """
    if not is_written_as_span(value, end):
        return None
    numbers, rows = value
    if numbers[:1] != (0,) and end != 0 and any([any(rule.starts) for rule in rules]):
        return None
    asked = asked_numbers(numbers, rows)
    tables = [values_at_all(rule, asked) for rule in rules]
    for number, pair in zip(numbers, rows):
        for digit, row in enumerate(pair):
            if row is not None and not all([is_right(row, numbers, 2 * number + digit, table) for table in tables]):
                return None
    return tables


def is_written_as_span(value, end):
    """Whether it is ascending numbers with pairs of rows that may stand there, be they right or wrong."""
    if not is_row_of(value, 2) or not isinstance(value[0], tuple) or len(value[0]) > SPAN:
        return False
    numbers, rows = value
    if not are_ascending(numbers) or not is_row_of(rows, len(numbers)):
        return False
    for number, pair in zip(numbers, rows):
        if not is_row_of(pair, 2):
            return False
        for digit, row in enumerate(pair):
            if not is_row_for(row, numbers, 2 * number + digit, end):
                return False
    return True


def are_ascending(numbers):
    """Whether these are integers from 0 on, each greater than the one before it."""
    before = -1
    for number in numbers:
        if not is_whole(number) or number <= before:
            return False
        before = number
    return True


def is_row_for(row, numbers, place, end):
    """Whether it may stand for the values at this place."""
    if row is None:
        return end is not None and place >= end
    if not is_fraction_row(row, len(numbers)):
        return False
    return all([number <= place or pair == ZERO for number, pair in zip(numbers, row)])


def asked_numbers(numbers, rows):
    """The ascending numbers of a span, and those whose values its rows tell."""
    found = {number: True for number in numbers}
    for number, pair in zip(numbers, rows):
        for digit, row in enumerate(pair):
            if row is not None:
                found[2 * number + digit] = True
    return sorted([int(number) for number in found])


def is_right(row, numbers, place, table):
    """Whether the values at the numbers, times the fractions of the row, add up to those at the place."""
    tops = []
    bottoms = []
    columns = []
    for pair, number in zip(row, numbers):
        if pair != ZERO:
            column, bottom = table[number]
            tops.append(pair[0])
            bottoms.append(pair[1] * bottom)
            columns.append(column)
    shared = 1
    for bottom in bottoms:
        shared = lcm(shared, bottom)
    factors = [top * (shared // bottom) for top, bottom in zip(tops, bottoms)]
    wanted, below = table[place]
    for at, worth in enumerate(wanted):
        total = sum([factor * column[at] for factor, column in zip(factors, columns)])
        if total * below != worth * shared:
            return False
    return True
