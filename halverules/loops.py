"""Functions that loops over the binary digits of a number work out."""

from halverules.checks import check_entries, check_rows
from halverules.errors import InvalidValues
from halverules.halved import function_of
from halverules.limits import VARIABLES
from halverules.lines import Lines, sum_of
from halverules.rows import sparse


def from_high(start, zero, one, answer):
    """The function that such a loop works out from the highest digit to the lowest one."""
    check_loop(start, zero, one, answer)
    return looped(zero, one, start, answer)


def from_low(start, zero, one, answer):
    """The function that such a loop works out from the lowest digit to the highest one."""
    check_loop(start, zero, one, answer)
    # The other way round, the digits change the factors by which the start is multiplied in the end.
    return looped(turned(zero), turned(one), answer, start)


def check_loop(start, zero, one, answer):
    """The errors of both functions, in their order."""
    if not isinstance(start, tuple) or not 1 <= len(start) <= VARIABLES:
        raise InvalidValues(None)
    many = len(start)
    check_entries(start, many)
    check_rows(zero, many)
    check_rows(one, many)
    check_entries(answer, many)


def turned(rows):
    """The rows with their columns as rows."""
    return [[row[at] for row in rows] for at in range(len(rows))]


def looped(zero, one, start, answer):
    """The function that is the answer behind the digits from the highest one on."""
    many = len(start)
    evens = [sparse(row) for row in zero]
    # The number 0 is twice itself, but has no digit: a last line, 1 at 0 only, puts right what the row does there.
    repairs = [worth - sum_of(mix, start) for worth, mix in zip(start, evens)]
    evens = [{**mix, **sparse([*([0] * many), repair])} for mix, repair in zip(evens, repairs)]
    odds = [sparse(row) for row in one]
    return function_of(Lines([*evens, {many: 1}], [*odds, {}], [*start, 1]), sparse(answer))
