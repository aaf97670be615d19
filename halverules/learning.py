"""Functions that are told back by their first values."""

from halverules.broken import BrokenLines, share_of
from halverules.checks import is_integer
from halverules.errors import InvalidValues
from halverules.halved import function_of
from halverules.least import combination
from halverules.lines import first_values, sum_of
from halverules.rows import least_index, reduced, sparse
from halverules.whole import whole_lines

# So many values tell a function of a rank of 1, 2, .. at most.
LENGTHS = (4, 16, 64, 256)


def told_back(values):
    """The function of so small a rank with these first values, None if there is none."""
    if not isinstance(values, tuple) or len(values) not in LENGTHS:
        raise InvalidValues(None)
    for at, worth in enumerate(values):
        if not is_integer(worth):
            raise InvalidValues(at)
    broken = told_lines(values, LENGTHS.index(len(values)) + 1)
    if broken is None:
        return None
    share = ({0: 1} if broken.starts else {}, 1)
    # There are none of these if the only rule gives a value that is no integer.
    made = whole_lines(broken, share)
    if made is None:
        return None
    lines, mix = made
    if any([sum_of(mix, own) != worth for own, worth in zip(first_values(lines, len(values)), values)]):
        return None
    return function_of(lines, mix)


def told_lines(values, most):
    """The basic parts of the only function of a rank of at most `most` that may have these values; None without any.

    New numbers of such a function have fewer than `most` digits, and its basic parts (k, r) have k less than `most`.
    So the values at hand tell all equations of its least rule, if there is one.
    """
    columns = 1 << most - 1
    echelon = []
    known = {}
    parts = []
    level = [(0, 0)]
    while level:
        fresh = []
        for depth, start in level:
            own = sparse([values[(n << depth) + start] for n in range(columns)])
            rest = reduced({**own, columns + len(parts): 1}, echelon)
            pivot = least_index(rest, columns)
            if pivot is None:
                known[depth, start] = combination(rest, columns, len(parts))
            elif len(parts) == most:
                return None
            else:
                known[depth, start] = {len(parts): (1, 1)}
                echelon.append((pivot, rest))
                parts.append((depth, start))
                fresh.append((depth, start))
        level = [(depth + 1, start + (digit << depth)) for digit in (0, 1) for depth, start in fresh]
    evens, odds = [told_shares(known, parts, digit) for digit in (0, 1)]
    return BrokenLines(evens, odds, [values[start] for _, start in parts])


def told_shares(known, parts, digit):
    """The shares of the parts that these are at 2 n + digit."""
    rows = [known[depth + 1, start + (digit << depth)] for depth, start in parts]
    return [share_of([row.get(at, (0, 1)) for at in range(len(parts))]) for row in rows]
