"""Functions that are told by the lines of a rule."""

from halverules.checks import check_entries, check_rows
from halverules.errors import InvalidRule, NotFitting
from halverules.halved import function_of
from halverules.limits import RANK
from halverules.lines import Lines, sum_of
from halverules.rows import sparse


def rule(even, odd, firsts, told):
    """The function that is the sum of the integers `told` times the functions of a rule."""
    if not isinstance(even, tuple) or not 1 <= len(even) <= RANK:
        raise InvalidRule(None)
    many = len(even)
    check_rows(even, many)
    check_rows(odd, many)
    check_entries(firsts, many)
    check_entries(told, many)
    lines = Lines([sparse(row) for row in even], [sparse(row) for row in odd], list(firsts))
    for at, row in enumerate(lines.halves[0]):
        if sum_of(row, firsts) != firsts[at]:
            raise NotFitting(at)
    return function_of(lines, sparse(told))
