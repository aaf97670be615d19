"""Rows of rests by which the rests of what a plain rule tells are known for all numbers. Only the checker uses this."""

from halverules.limits import STATES
from halverules.plain import is_between, is_row_of, row_times


def is_closed(value, rule, modulus, rests):
    """Whether these are rows that show that the rests of a rule are among the given ones.

    The told row is there, and with each row those that it makes at 2 n and at 2 n + 1; at 0 all have such rests.
    """
    width = len(rule.starts)
    matrices = [matrix_of(rows) for rows in rule.halves]
    told, bottom = rule.answer
    if None in matrices or bottom != 1 or not are_rows(value, width, modulus):
        return False
    known = {row: True for row in value}
    if tuple([told.get(at, 0) % modulus for at in range(width)]) not in known:
        return False
    for columns in matrices:
        if not all([made_row(row, columns, modulus) in known for row in value]):
            return False
    return all([sum_of_products(row, rule.starts) % modulus in rests for row in value])


def made_row(row, columns, modulus):
    """The rests of what a row makes of rows with these columns."""
    return tuple([row_times(column, row) % modulus for column in columns])


def matrix_of(rows):
    """For each line the column of what the rows have of it, None if there are fractions."""
    columns = [{} for _ in rows]
    for at, (tops, bottom) in enumerate(rows):
        if bottom != 1:
            return None
        for to in tops:
            columns[to][at] = tops[to]
    return columns


def are_rows(value, width, modulus):
    """Whether these are ascending rows of so many rests, and not too many of them."""
    if not isinstance(value, tuple) or len(value) > STATES:
        return False
    before = None
    for row in value:
        if not is_row_of(row, width) or not all([is_between(rest, 0, modulus - 1) for rest in row]):
            return False
        if before is not None and not before < row:
            return False
        before = row
    return True


def sum_of_products(row, values):
    """The sum of the products of what stands at the same places."""
    return sum([one * other for one, other in zip(row, values)])
