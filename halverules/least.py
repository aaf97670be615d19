"""The least rule of a mix of lines: its basic parts, their equations and their first values."""

from math import gcd

from halverules.lines import half_mix, sum_of
from halverules.rows import least_index, reduced


def least_rule(lines, mix):
    """The basic parts of a mix, their equations and their first values.

    There must be no more lines than the rank, so that parts are the same only if they have the same factors.
    """
    known, parts = told_parts(lines, mix)
    equations = []
    for depth, start, _ in parts:
        even = known[depth + 1, start]
        odd = known[depth + 1, start + (1 << depth)]
        equations.append((filled(even, len(parts)), filled(odd, len(parts))))
    basis = tuple([(depth, start) for depth, start, _ in parts])
    firsts = tuple([sum_of(own, lines.starts) for _, _, own in parts])
    return basis, tuple(equations), firsts


def told_parts(lines, mix):
    """What is known of the parts of a mix, and its basic parts.

    Known is, for each basic part and for what it is at 2 n and at 2 n + 1, a dict of the fractions other than 0 with
    which it is a combination of basic parts. The basic parts are told with their mixes.
    """
    width = len(lines.starts)
    echelon = []
    known = {}
    parts = []
    level = [(0, 0, mix)]
    while level:
        fresh = []
        for part in level:
            depth, start, own = part
            # Behind its factors a row tells by which others it is mixed from those of parts.
            rest = reduced({**own, width + len(parts): 1}, echelon)
            pivot = least_index(rest, width)
            if pivot is None:
                known[depth, start] = combination(rest, width, len(parts))
            else:
                known[depth, start] = {len(parts): (1, 1)}
                echelon.append((pivot, rest))
                parts.append(part)
                fresh.append(part)
        level = [half_part(lines, part, digit) for digit in (0, 1) for part in fresh]
    return known, parts


def half_part(lines, part, digit):
    """What a part, with its mix, is at 2 n + digit."""
    depth, start, own = part
    return depth + 1, start + (digit << depth), half_mix(lines, own, digit)


def combination(rest, width, many):
    """The fractions with which a part is a combination of so many basic ones, if its row came out as 0."""
    own = rest[width + many]
    return {at: fraction(-rest[width + at], own) for at in range(many) if width + at in rest}


def fraction(top, bottom):
    """The fraction in lowest terms."""
    common = gcd(top, bottom)
    if bottom < 0:
        common = -common
    return top // common, bottom // common


def filled(fractions, many):
    """The row of so many fractions."""
    return tuple([fractions.get(at, (0, 1)) for at in range(many)])
