"""Functions T with T(n) = low * T(n // 2) + high * T((n + 1) // 2) + extra(n)."""

from halverules.checks import check_entries, is_between, is_integer
from halverules.errors import InvalidNumber, InvalidValues, NotAFunction
from halverules.halved import Halved, constant, function_of
from halverules.limits import FACTOR, FIRST_VALUES
from halverules.lines import Lines, half_mix, moved, sum_of, values_at
from halverules.rows import sparse
from halverules.systems import beside, single_lines, thinned

# Twice this many are the most first values.
SINGLES = 4


def costs(low, high, extra, values):
    """The function with these first values and this recursion for all further ones."""
    if not is_between(low, -FACTOR, FACTOR):
        raise InvalidNumber(low)
    if not is_between(high, -FACTOR, FACTOR):
        raise InvalidNumber(high)
    if not isinstance(extra, Halved) and not is_integer(extra):
        raise NotAFunction(extra)
    if not isinstance(values, tuple) or not 2 <= len(values) <= FIRST_VALUES:
        raise InvalidValues(None)
    check_entries(values, len(values))
    if is_integer(extra):
        extra = constant(extra)
    return function_of(cost_lines(low, high, extra, values), {0: 1})


def cost_lines(low, high, extra, values):
    """Lines of which the first is T(n) and the second T(n + 1)."""
    further = beside(single_lines(SINGLES), thinned(extra.lines, 1, 1))
    repairs = [worth - guess(low, high, extra, values, at) for at, worth in enumerate(values)]
    # What T(n) has besides, at 2 n, 2 n + 1 and 2 n + 2.
    even, odd, after = [besides(extra, repairs, offset) for offset in (0, 1, 2)]
    both = low + high
    evens = [{**sparse([both]), **even}, {**sparse([low, high]), **odd}]
    odds = [{**sparse([low, high]), **odd}, {**sparse([0, both]), **after}]
    return Lines(
        [*evens, *[moved(mix, 2) for mix in further.halves[0]]],
        [*odds, *[moved(mix, 2) for mix in further.halves[1]]],
        [values[0], values[1], *further.starts])


def guess(low, high, extra, values, n):
    """What the recursion would give at the number of a first value."""
    own = sum_of(extra.mix, values_at(extra.lines, n))
    return low * values[n // 2] + high * values[(n + 1) // 2] + own


def besides(extra, repairs, offset):
    """The mix of all lines that is extra and the repairs at 2 n + offset."""
    width = len(extra.lines.starts)
    half, digit = divmod(offset, 2)
    # The lines of extra at n + 1 stand ahead of those at n.
    ahead = 2 + SINGLES + width * (1 - half)
    mix = moved(half_mix(extra.lines, extra.mix, digit), ahead)
    for at in range(SINGLES):
        place = 2 * at + offset
        if place < len(repairs) and repairs[place] != 0:
            mix[2 + at] = repairs[place]
    return mix
