"""Rows of integers, most of them 0: dicts of those other than 0 by their index.

Multiples of a row are as good as the row itself in all of this file, so that no fractions are needed.
An echelon is a list of pairs of an index and a row that is not 0 there, while all later rows are.
"""

from math import gcd


def sparse(values):
    """The row of these integers."""
    return {at: worth for at, worth in enumerate(values) if worth != 0}


def trimmed(row):
    """The row without zeros, divided by what divides all of it."""
    common = 0
    for at in row:
        common = gcd(common, row[at])
        if common == 1:
            break
    return {at: row[at] // common for at in row if row[at] != 0}


def cleared(row, other, pivot):
    """A multiple of the row less one of the other row, so that it is 0 at the pivot."""
    common = gcd(row[pivot], other[pivot])
    times = other[pivot] // common
    minus = row[pivot] // common
    if times < 0:
        times = -times
        minus = -minus
    mixed = dict(row)
    if times != 1:
        for at in row:
            mixed[at] = times * row[at]
    for at in other:
        mixed[at] = mixed.get(at, 0) - minus * other[at]
    return trimmed(mixed)


def reduced(row, echelon):
    """A multiple of the row less multiples of those of the echelon, so that it is 0 at all their indexes."""
    for pivot, other in echelon:
        if pivot in row:
            row = cleared(row, other, pivot)
    return row


def least_index(row, width):
    """The least index below the width at which the row is not 0, None without any."""
    for at in range(width):
        if at in row:
            return at
    return None


def settled(echelon):
    """An echelon of the same combinations in which each row is 0 at the indexes of all others."""
    later = []
    for at in reversed(range(len(echelon))):
        pivot, row = echelon[at]
        later.append((pivot, reduced(row, later)))
    return later


def row_product(row, other):
    """The sum of the products of what two rows have at the same indexes."""
    return sum([row[at] * other[at] for at in row if at in other])
