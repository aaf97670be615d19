"""Broken lines: lines whose factors may be fractions, while their values are integers as far as is known.

A share is a combination of lines, a pair: the dict of the factors other than 0 by the index of the line, and the
bottom, an integer from 1 on, by which their sum is divided.
"""

from math import gcd, lcm


class BrokenLines:
    """The shares that the lines are at 2 n, those that they are at 2 n + 1, as a pair, and their values at 0."""

    def __init__(self, evens, odds, starts):
        self.halves = (evens, odds)
        self.starts = starts


def lowest(factors, bottom):
    """The share with these factors over the bottom, zeros left out, in lowest terms."""
    common = bottom
    for at in factors:
        common = gcd(common, factors[at])
        if common == 1:
            break
    return {at: factors[at] // common for at in factors if factors[at] != 0}, bottom // common


def share_of(fractions):
    """The share with these fractions, pairs (top, bottom), as its factors."""
    shared = 1
    for _, bottom in fractions:
        shared = lcm(shared, bottom)
    return lowest({at: top * (shared // bottom) for at, (top, bottom) in enumerate(fractions)}, shared)


def combined_share(share, others):
    """The share that is the sum of the factors of a share times the other ones."""
    factors, bottom = share
    shared = 1
    for at in factors:
        shared = lcm(shared, others[at][1])
    mixed = {}
    for at in factors:
        parts, under = others[at]
        times = factors[at] * (shared // under)
        for to in parts:
            mixed[to] = mixed.get(to, 0) + times * parts[to]
    return lowest(mixed, bottom * shared)


def half_share(broken, share, digit):
    """What the share of the lines at 2 n + digit is as one of the lines at n."""
    return combined_share(share, broken.halves[digit])


def is_whole(broken, share):
    """Whether no factor of the lines and of the share is a fraction."""
    shares = [share, *broken.halves[0], *broken.halves[1]]
    return all([bottom == 1 for _, bottom in shares])
