"""The rests of a mix of lines by a modulus, and of all its parts.

What is told by halves has few different parts if only rests are asked for. Each of them is kept by its rests at rows of
values of which the values of all lines at n are sums of integer multiples, but for rests: two parts have the same rests
for all n if, and only if, they have the same rests there.
"""

from halverules.lines import line_rests, mix_rests, next_values, sum_of
from halverules.parts import Parts
from halverules.rows import sparse
from halverules.whole import factors_in, left_over, widened


def rest_parts(lines, mix, modulus, most):
    """The different parts of the rests of a mix by the modulus, None if there are more than `most`."""
    lines = line_rests(lines, modulus)
    lattice = value_lattice(lines, modulus)
    width = len(lines.starts)
    evens, odds = [half_rows(lines, lattice, modulus, digit) for digit in (0, 1)]
    first = mix_rests(mix, modulus)
    parts = [tuple([sum_of(first, lattice[place]) % modulus for place in range(width)])]
    places = {parts[0]: 0}
    halves = []
    at = 0
    while at < len(parts):
        part = parts[at]
        at += 1
        pair = []
        for rows in (evens, odds):
            half = tuple([sum_of(row, part) % modulus for row in rows])
            if half not in places:
                if len(parts) == most:
                    return None
                places[half] = len(parts)
                parts.append(half)
            pair.append(places[half])
        halves.append((pair[0], pair[1]))
    start = sparse(factors_in(lattice, lines.starts))
    return Parts(halves, [sum_of(start, part) % modulus for part in parts])


def value_lattice(lines, modulus):
    """The least lattice that has the values of all lines at n, for each n, and all rows whose rests are 0."""
    width = len(lines.starts)
    lattice = {place: [modulus if to == place else 0 for to in range(width)] for place in range(width)}
    waiting = [lines.starts]
    at = 0
    while at < len(waiting):
        values = [worth % modulus for worth in waiting[at]]
        at += 1
        if any(left_over(lattice, values)):
            lattice = widened(lattice, values)
            waiting.append(next_values(lines, values, 0))
            waiting.append(next_values(lines, values, 1))
    return lattice


def half_rows(lines, lattice, modulus, digit):
    """For each row of the lattice the rests by which the rows add up to what this one leads to at 2 n + digit.

    By these rests a part's own rests at the rows add up to those of its half.
    """
    width = len(lines.starts)
    rows = [factors_in(lattice, next_values(lines, lattice[place], digit)) for place in range(width)]
    return [sparse([factor % modulus for factor in row]) for row in rows]
