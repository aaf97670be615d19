"""What parts functions, and which of them are combinations of others."""

from halverules.errors import InvalidValues, TooMany
from halverules.fresh import fresh_numbers
from halverules.halved import check_function
from halverules.limits import FUNCTIONS, TOGETHER
from halverules.lines import Lines, moved, sum_of
from halverules.rows import least_index, reduced, sparse
from halverules.systems import beside


def parting(f, g):
    """The least n at which they differ, None if they are the same."""
    check_function(f)
    check_function(g)
    width = len(f.lines.starts)
    return first_apart(beside(f.lines, g.lines), {**f.mix, **{at + width: -g.mix[at] for at in g.mix}})


def first_apart(lines, apart):
    """The least n at which a mix of lines is not 0, None if it is 0 for all n."""
    for number, values in fresh_numbers(lines, apart):
        if sum_of(apart, values) != 0:
            return number
    return None


def new_numbers(*functions):
    """The ascending tuple of the new numbers for these functions."""
    check_functions(functions)
    lines, _ = together(functions)
    return tuple([number for number, _ in fresh_numbers(lines, {})])


def relations(*functions):
    """For each function that is a combination of those before it the row of integers by which they add up to 0."""
    return relation_rows(functions)


def relation_rows(functions):
    """The rows of relations for these functions."""
    check_functions(functions)
    lines, mixes = together(functions)
    columns = [values for _, values in fresh_numbers(lines, {})]
    width = len(columns)
    echelon = []
    rows = []
    for at, mix in enumerate(mixes):
        own = sparse([sum_of(mix, values) for values in columns])
        # Behind its values a row tells by which factors it is mixed from those of the functions.
        rest = reduced({**own, width + at: 1}, echelon)
        pivot = least_index(rest, width)
        if pivot is None:
            rows.append(relation(rest, width, at, len(functions)))
        else:
            echelon.append((pivot, rest))
    return tuple(rows)


def relation(rest, width, at, many):
    """The factors of so many functions behind the width, that of the function at this index above 0."""
    sign = 1 if rest[width + at] > 0 else -1
    return tuple([sign * rest.get(width + to, 0) for to in range(many)])


def check_functions(functions):
    """The errors of functions that are looked at together."""
    if not 1 <= len(functions) <= FUNCTIONS:
        raise InvalidValues(None)
    for function in functions:
        check_function(function)
    if sum([function.rank for function in functions]) > TOGETHER:
        raise TooMany()


def together(functions):
    """The lines of all functions, and for each function its mix of them."""
    lines = Lines([], [], [])
    mixes = []
    for function in functions:
        mixes.append(moved(function.mix, len(lines.starts)))
        lines = beside(lines, function.lines)
    return lines, mixes
