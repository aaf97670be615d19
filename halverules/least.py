"""The least rule of a mix of lines: its basic parts, their equations and their first values."""

from math import gcd

from halverules.errors import TooMany
from halverules.limits import RANK
from halverules.lines import half_mix, next_values, sum_of, value_of
from halverules.rows import least_index, reduced, sparse


def least_rule(lines, mix):
    """The basic parts of a mix, their equations and their first values; TooMany if the rank is too great."""
    numbers = new_numbers(lines, part_rows(lines, mix), RANK)
    columns = [values for _, values in numbers]
    known, parts = told_parts(lines, mix, columns)
    equations = []
    for depth, start, _ in parts:
        even = known[depth + 1, start]
        odd = known[depth + 1, start + (1 << depth)]
        equations.append((filled(even, len(parts)), filled(odd, len(parts))))
    basis = tuple([(depth, start) for depth, start, _ in parts])
    # The first of the new numbers is 0, unless there is none.
    firsts = tuple([value_of(part[2], columns[0]) for part in parts])
    return basis, tuple(equations), firsts


def part_rows(lines, mix):
    """The factors of some parts of a mix, of which those of all its parts are combinations.

    They are told but for a multiple. Where lines hang on one another there can be more of them than the rank.
    """
    echelon = []
    rows = []
    level = [mix]
    while level:
        fresh = []
        for part in level:
            rest = reduced(part[0], echelon)
            pivot = least_index(rest, len(lines.starts))
            if pivot is not None:
                echelon.append((pivot, rest))
                rows.append(part[0])
                fresh.append(part)
                # There can be very many of them, and by now most ranks that are too great are seen.
                if len(rows) % (2 * RANK) == 0:
                    new_numbers(lines, rows, RANK)
        level = [half_mix(lines, part, digit) for digit in (0, 1) for part in fresh]
    return rows


def new_numbers(lines, rows, most):
    """The pairs of a new number for some functions and the values of all lines at it; TooMany beyond `most`.

    A row has the factors by which the lines add up to a function, and all parts of the functions must be combinations
    of them. If they are not, the numbers that are found still are no more than the rank of the functions.
    """
    echelon = []
    found = []
    waiting = [(0, lines.starts)]
    at = 0
    while at < len(waiting):
        number, values = waiting[at]
        at += 1
        rest = reduced(sparse([sum_of(factors, values) for factors in rows]), echelon)
        pivot = least_index(rest, len(rows))
        if pivot is not None:
            if len(found) == most:
                raise TooMany()
            echelon.append((pivot, rest))
            found.append((number, values))
            for digit in (0, 1):
                # The number 0 is twice itself.
                if number + digit > 0:
                    waiting.append((2 * number + digit, next_values(lines, values, digit)))
    return found


def told_parts(lines, mix, columns):
    """What is known of the parts of a mix, and its basic parts, from the values of all lines at its new numbers.

    Known is, for each basic part and for what it is at 2 n and at 2 n + 1, a dict of the fractions other than 0 with
    which it is a combination of basic parts. The basic parts are told with their mixes.
    """
    width = len(columns)
    echelon = []
    known = {}
    parts = []
    level = [(0, 0, mix)]
    while level:
        fresh = []
        for part in level:
            depth, start, own = part
            row = sparse([value_of(own, values) for values in columns])
            # Behind its values a row tells by which factors it is mixed from those of parts.
            rest = reduced({**row, width + len(parts): 1}, echelon)
            pivot = least_index(rest, width)
            if pivot is None:
                known[depth, start] = combination(rest, width, len(parts))
            else:
                known[depth, start] = {len(parts): (1, 1)}
                echelon.append((pivot, rest))
                parts.append(part)
                fresh.append(part)
        level = [half_part(lines, part, digit) for digit in (0, 1) for part in fresh]
    return known, parts


def half_part(lines, part, digit):
    """What a part, with its mix, is at 2 n + digit."""
    depth, start, own = part
    return depth + 1, start + (digit << depth), half_mix(lines, own, digit)


def combination(rest, width, many):
    """The fractions with which a part is a combination of so many basic ones, if its row came out as 0."""
    own = rest[width + many]
    return {at: fraction(-rest[width + at], own) for at in range(many) if width + at in rest}


def fraction(top, bottom):
    """The fraction in lowest terms."""
    common = gcd(top, bottom)
    if bottom < 0:
        common = -common
    return top // common, bottom // common


def filled(fractions, many):
    """The row of so many fractions."""
    return tuple([fractions.get(at, (0, 1)) for at in range(many)])
