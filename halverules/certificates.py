"""Claims about functions, with the certificates that the checker accepts."""

from math import lcm

from halverules.broken import share_of
from halverules.checks import is_between
from halverules.errors import InvalidNumber, TooManyStates
from halverules.fresh import fresh_numbers
from halverules.halved import check_function, whole_row
from halverules.least import filled, fraction
from halverules.limits import MODULUS, STATES
from halverules.lines import combined, half_mix, line_rests, mix_rests, next_values, sum_of
from halverules.relations import parting, relation_rows, together
from halverules.rows import least_index, reduced, settled, sparse
from halverules.whole import whole_rule


def plain_rule(f):
    """The least rule as a plain rule, with its first line told."""
    check_function(f)
    told = tuple([(1, 1) if at == 0 else (0, 1) for at in range(f.rank)])
    return tuple([even for even, _ in f.equations]), tuple([odd for _, odd in f.equations]), f.firsts, told


def certify_parting(f, g):
    """The claim that two functions are the same, or that a number is the least one that parts them."""
    number = parting(f, g)
    rules = (plain_rule(f), plain_rule(g))
    if number is None:
        return ("same", *rules), span_of((f, g), None)
    return ("parting", *rules, number), span_of((f, g), number)


def certify_relations(*functions):
    """For each row of the relations of functions the claim that they add up to 0 by it."""
    rows = relation_rows(functions)
    rules = tuple([plain_rule(function) for function in functions])
    span = span_of(functions, None) if rows else ()
    return tuple([(("relation", rules, row), span) for row in rows])


def span_of(functions, end):
    """A span for the least rules of functions up to the end, or, if this is None, without one.

    It has the new numbers, and all rows but those that it need not have.
    """
    lines, _ = together(functions)
    fresh = [pair for pair in fresh_numbers(lines, {}) if end is None or pair[0] < end]
    many = len(fresh)
    places = {number: at for at, (number, _) in enumerate(fresh)}
    mixes, bottom = turned_values([values for _, values in fresh])
    rows = []
    for number, values in fresh:
        pair = [None, None]
        for digit in (0, 1):
            half = 2 * number + digit
            if half in places:
                pair[digit] = filled({places[half]: (1, 1)}, many)
            elif end is None or half < end:
                tops = combined(sparse(next_values(lines, values, digit)), mixes)
                pair[digit] = filled({at: fraction(tops[at], bottom) for at in tops}, many)
        rows.append((pair[0], pair[1]))
    return tuple(list(places)), tuple(rows)


def turned_values(columns):
    """By which factors columns of values, which are no combinations of one another, add up to a combination of them.

    For each place the mix of the columns that goes with a 1 there, and the bottom by which their sum is divided. Some
    places are enough to tell a combination; at the others nothing goes with a 1.
    """
    width = len(columns[0]) if columns else 0
    echelon = []
    for at, values in enumerate(columns):
        # Behind its values a row tells by which factors it is mixed from the columns.
        rest = reduced({**sparse(values), width + at: 1}, echelon)
        echelon.append((least_index(rest, width), rest))
    pivots = {pivot: True for pivot, _ in echelon}
    rows = settled([(pivot, row_at(row, pivots, width)) for pivot, row in echelon])
    bottom = 1
    for pivot, row in rows:
        bottom = lcm(bottom, row[pivot])
    mixes = [{} for _ in range(width)]
    for pivot, row in rows:
        mixes[pivot] = factors_behind(row, width, bottom // row[pivot])
    return mixes, bottom


def row_at(row, pivots, width):
    """The row without what stands below the width, but for the pivots."""
    return {at: row[at] for at in row if at >= width or at in pivots}


def factors_behind(row, width, times):
    """So many times what stands from the width on."""
    return {at - width: times * row[at] for at in row if at >= width}


def certify_rests(f, modulus):
    """The claim that a function has just the rests by the modulus that it has."""
    check_function(f)
    if not is_between(modulus, 2, MODULUS):
        raise InvalidNumber(modulus)
    evens, odds = [[share_of(halves[digit]) for halves in f.equations] for digit in (0, 1)]
    # The values of these lines at all n make all rows of integers, so what has other rests of factors has other rests.
    lines, mix = whole_rule(evens, odds, list(f.firsts))
    width = len(lines.starts)
    parts = rest_rows(line_rests(lines, modulus), mix_rests(mix, modulus), modulus)
    rests = {sum_of(part, lines.starts) % modulus: True for part in parts}
    even, odd = [tuple([whole_row(half, width) for half in halves]) for halves in lines.halves]
    rule = (even, odd, tuple(lines.starts), whole_row(mix, width))
    claim = ("rests", rule, modulus, tuple(sorted([int(rest) for rest in rests])))
    return claim, ascending_rows(parts, width, modulus)


def rest_rows(lines, mix, modulus):
    """The rests of the factors of all parts of a mix; TooManyStates if there are too many."""
    width = len(lines.starts)
    parts = [mix]
    seen = {whole_row(mix, width): True}
    at = 0
    while at < len(parts):
        for digit in (0, 1):
            part = mix_rests(half_mix(lines, parts[at], digit), modulus)
            mark = whole_row(part, width)
            if mark not in seen:
                if len(parts) == STATES:
                    raise TooManyStates()
                seen[mark] = True
                parts.append(part)
        at += 1
    return parts


def ascending_rows(parts, width, modulus):
    """The ascending rows of the factors of these parts."""
    rows = {}
    for part in parts:
        row = [part.get(at, 0) for at in range(width)]
        # Read as the digits of a number, lesser rows are lesser numbers.
        code = 0
        for rest in row:
            code = code * modulus + rest
        rows[code] = tuple(row)
    return tuple([rows[place] for place in sorted([int(other) for other in rows])])
