"""Rows: functions of k of which a recurrence holds, as the values of functions at the doubles of a number have one."""

from halverules.checks import is_between, is_integer
from halverules.errors import InvalidNumber, TooMany
from halverules.halved import check_function
from halverules.limits import BASE, PLACE, SHIFT, START
from halverules.lines import next_values, sum_of, values_at
from halverules.recurring import least_recurrence, stepped, values_needed


class Row:
    """A function of k, kept by its least recurrence and as many first values."""

    def __init__(self, recurrence, firsts):
        self._recurrence = recurrence
        self._firsts = firsts

    @property
    def rank(self):
        """How many values before it the next one is told by."""
        return len(self._firsts)

    @property
    def recurrence(self):
        """The factors of the values before it, the last one first."""
        return self._recurrence

    @property
    def firsts(self):
        """As many first values."""
        return self._firsts

    def __call__(self, k):
        if not is_between(k, 0, PLACE):
            raise InvalidNumber(k)
        return row_values(self, k + 1)[k]

    def __add__(self, other):
        return summed_rows(self, as_row(other))

    def __radd__(self, other):
        return summed_rows(as_row(other), self)

    def __sub__(self, other):
        return summed_rows(self, scaled_row(as_row(other), -1))

    def __rsub__(self, other):
        return summed_rows(as_row(other), scaled_row(self, -1))

    def __mul__(self, other):
        if is_integer(other):
            return scaled_row(self, other)
        return multiplied_rows(self, as_row(other))

    def __rmul__(self, other):
        return self * other

    def __neg__(self):
        return scaled_row(self, -1)

    def __lshift__(self, other):
        if not is_integer(other):
            raise TypeError("no integer")
        if not is_between(other, 0, SHIFT):
            raise InvalidNumber(other)
        return row_of(row_values(self, other + values_needed(self.rank))[other:], self.rank)

    def __eq__(self, other):
        return (
            isinstance(other, Row)
            and self._recurrence == other._recurrence
            and self._firsts == other._firsts
        )

    def __bool__(self):
        return bool(self._firsts)

    def __repr__(self):
        return f"Row({len(self._firsts)})"


def as_row(value):
    """The row on one side of an operator, also for an integer, which is the same for all k."""
    if isinstance(value, Row):
        return value
    if not is_integer(value):
        raise TypeError("no row and no integer")
    return scaled_row(Row((1,), (1,)), value)


def row_of(values, most):
    """The row with these first values, of a rank of at most `most`; there must be as many as that needs."""
    recurrence = least_recurrence(values, most)
    if recurrence is None:
        raise TooMany()
    return Row(recurrence, tuple(values[:len(recurrence)]))


def row_values(row, many):
    """So many first values of a row."""
    values = list(row.firsts)
    rank = len(values)
    while len(values) < many:
        values.append(stepped(values[len(values) - rank:], row.recurrence))
    return values[:many]


def scaled_row(row, times):
    """So many times the row."""
    if times == 0:
        return Row((), ())
    return Row(row.recurrence, tuple([times * first for first in row.firsts]))


def summed_rows(first, second):
    """The sum of two rows."""
    most = first.rank + second.rank
    many = values_needed(most)
    values = [one + other for one, other in zip(row_values(first, many), row_values(second, many))]
    return row_of(values, most)


def multiplied_rows(first, second):
    """The product of two rows."""
    most = first.rank * second.rank
    many = values_needed(most)
    values = [one * other for one, other in zip(row_values(first, many), row_values(second, many))]
    return row_of(values, most)


def along(f, start):
    """The values of a function at 2 ** k * start."""
    check_function(f)
    if not is_between(start, 0, START):
        raise InvalidNumber(start)
    values = values_at(f.lines, start)
    worths = []
    while len(worths) < values_needed(f.rank):
        worths.append(sum_of(f.mix, values))
        values = next_values(f.lines, values, 0)
    return row_of(worths, f.rank)


def powers(base):
    """The powers of an integer."""
    if not is_between(base, -BASE, BASE):
        raise InvalidNumber(base)
    return Row((base,), (1,))


def index():
    """The row that is k."""
    return Row((2, -1), (0, 1))
