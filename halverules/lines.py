"""Lines: functions with integer values that are told by one another, by halves.

A mix is a combination of lines, a pair: a dict of the factors other than 0 by the index of the line, and the bottom,
an integer from 1 on, by which their sum is divided.
"""

from math import gcd, lcm

from halverules.rows import sparse


class Lines:
    """For each line the pair of the mixes that it is at 2 n and at 2 n + 1, and its value at 0."""

    def __init__(self, halves, starts):
        self.halves = halves
        self.starts = starts


def lowest(factors, bottom):
    """The mix with these factors over the bottom, zeros left out, in lowest terms."""
    common = bottom
    for at in factors:
        common = gcd(common, factors[at])
        if common == 1:
            break
    return {at: factors[at] // common for at in factors if factors[at] != 0}, bottom // common


def moved(mix, shift):
    """The same mix of lines that stand so much further behind."""
    factors, bottom = mix
    return {at + shift: factors[at] for at in factors}, bottom


def half_mix(lines, mix, digit):
    """What the mix of the lines at 2 n + digit is as a mix of the lines at n."""
    factors, bottom = mix
    shared = 1
    for at in factors:
        shared = lcm(shared, lines.halves[at][digit][1])
    mixed = {}
    for at in factors:
        parts, under = lines.halves[at][digit]
        times = factors[at] * (shared // under)
        for to in parts:
            mixed[to] = mixed.get(to, 0) + times * parts[to]
    return lowest(mixed, bottom * shared)


def sum_of(factors, values):
    """The sum of the factors times the values."""
    return sum([factors[at] * values[at] for at in factors])


def value_of(mix, values):
    """The value of a mix of lines that have these values."""
    factors, bottom = mix
    return sum_of(factors, values) // bottom


def next_values(lines, values, digit):
    """The values of all lines at 2 n + digit, from those at n."""
    return [value_of(halves[digit], values) for halves in lines.halves]


def values_at(lines, n):
    """The values of all lines at n."""
    values = lines.starts
    for at in reversed(range(n.bit_length())):
        values = next_values(lines, values, n >> at & 1)
    return values


def lines_of(equations, firsts):
    """The lines of a least rule."""
    return Lines([(mix_of(even), mix_of(odd)) for even, odd in equations], list(firsts))


def mix_of(fractions):
    """The mix with these fractions as its factors."""
    shared = 1
    for _, bottom in fractions:
        shared = lcm(shared, bottom)
    return sparse([top * (shared // bottom) for top, bottom in fractions]), shared


def first_line(lines):
    """The mix that is the first line, 0 without lines."""
    if not lines.starts:
        return {}, 1
    return {0: 1}, 1
