"""Sums of the values of a function at all lesser numbers."""

from halverules.halved import check_function, function_of
from halverules.lines import Lines, combined, moved


def sums(f):
    """The function f(0) + f(1) + .. + f(n - 1), 0 at 0."""
    check_function(f)
    lines = f.lines
    width = len(lines.starts)
    evens, odds = lines.halves
    # The numbers less than 2 n are the doubles of those less than n, and these and one.
    doubled = [summed_mix(even, odd) for even, odd in zip(evens, odds)]
    # Behind the sums stand the lines themselves.
    shifted = [moved(even, width) for even in evens]
    sum_lines = Lines(
        [*doubled, *shifted],
        [*[{**whole, **last} for whole, last in zip(doubled, shifted)], *[moved(odd, width) for odd in odds]],
        [*([0] * width), *lines.starts])
    return function_of(sum_lines, f.mix)


def summed_mix(mix, other):
    """The sum of two mixes."""
    return combined({0: 1, 1: 1}, (mix, other))
