"""The fewest lines of which a given mix of lines is a mix, so that there are as many of them as its rank.

Lines that are combinations of others are left out first; then factors tell functions apart, and only what is mixed from
the factors of parts is kept. Where this brings in fractions, other lines are taken that are told without them.
"""

from halverules.broken import BrokenLines, combined_share, half_share, is_whole, share_of
from halverules.errors import TooMany
from halverules.limits import RANK
from halverules.lines import Lines, next_values, sum_of
from halverules.modular import rank_bound
from halverules.rows import least_index, reduced, row_product, settled, sparse
from halverules.whole import whole_lines


def fewest_lines(lines, mix):
    """As many lines as the rank of a mix, and the same function as a mix of them; TooMany if it is too great."""
    lines, mix = reached(lines, mix)
    # Great numbers make the exact way long, and most mixes need not go it.
    bound = rank_bound(lines, mix)
    if bound > RANK:
        raise TooMany()
    if bound == len(lines.starts):
        return lines, mix
    broken, share = independent(lines, mix)
    broken, share = parts_only(broken, share)
    if is_whole(broken, share):
        evens, odds = broken.halves
        return Lines([factors for factors, _ in evens], [factors for factors, _ in odds], broken.starts), share[0]
    return whole_lines(broken, share)


def reached(lines, mix):
    """The lines on which the mix hangs, in their order, and the mix of them."""
    found = {}
    waiting = list(mix)
    while waiting:
        at = waiting.pop()
        if at not in found:
            found[at] = True
            waiting.extend(list(lines.halves[0][at]))
            waiting.extend(list(lines.halves[1][at]))
    return kept_lines(lines, mix, [at for at in range(len(lines.starts)) if at in found])


def kept_lines(lines, mix, kept):
    """The lines with these indexes, on which no others hang, and the mix of them."""
    if len(kept) == len(lines.starts):
        return lines, mix
    places = {at: place for place, at in enumerate(kept)}
    evens, odds = lines.halves
    some = Lines(
        [placed(evens[at], places) for at in kept],
        [placed(odds[at], places) for at in kept],
        [lines.starts[at] for at in kept])
    return some, placed(mix, places)


def placed(mix, places):
    """The mix of lines that stand elsewhere."""
    return {places[at]: mix[at] for at in mix}


def independent(lines, mix):
    """The lines that are no combinations of others, as broken lines, and the mix as a share of them."""
    span = settled(value_span(lines))
    evens, odds = lines.halves
    broken = BrokenLines(
        [share_in(evens[pivot], span) for pivot, _ in span],
        [share_in(odds[pivot], span) for pivot, _ in span],
        [lines.starts[pivot] for pivot, _ in span])
    return broken, share_in(mix, span)


def value_span(lines):
    """An echelon of which the rows of values of all lines at one number are combinations, for each number."""
    echelon = []
    waiting = [(lines.starts, None)]
    at = 0
    while at < len(waiting) and len(echelon) < len(lines.starts):
        values, digit = waiting[at]
        at += 1
        if digit is not None:
            values = next_values(lines, values, digit)
        rest = reduced(sparse(values), echelon)
        pivot = least_index(rest, len(values))
        if pivot is not None:
            echelon.append((pivot, rest))
            waiting.append((values, 0))
            waiting.append((values, 1))
    return echelon


def share_in(mix, span):
    """The mix as a share of the lines at whose indexes the rows of a settled span stand."""
    return share_of([(row_product(mix, row), row[pivot]) for pivot, row in span])


def parts_only(broken, share):
    """Broken lines of which just the parts of the share are combinations, and the share as one of them."""
    rows = settled(part_span(broken, share))
    if len(rows) > RANK:
        raise TooMany()
    if len(rows) == len(broken.starts):
        return broken, share
    evens, odds = broken.halves
    parts = BrokenLines(
        [share_by(combined_share((row, 1), evens), rows) for _, row in rows],
        [share_by(combined_share((row, 1), odds), rows) for _, row in rows],
        [sum_of(row, broken.starts) for _, row in rows])
    return parts, share_by(share, rows)


def part_span(broken, share):
    """An echelon of which the factors of all parts of the share are combinations."""
    echelon = []
    waiting = [share]
    at = 0
    while at < len(waiting) and len(echelon) < len(broken.starts):
        part = waiting[at]
        at += 1
        rest = reduced(part[0], echelon)
        pivot = least_index(rest, len(broken.starts))
        if pivot is not None:
            echelon.append((pivot, rest))
            waiting.append(half_share(broken, part, 0))
            waiting.append(half_share(broken, part, 1))
    return echelon


def share_by(share, rows):
    """The share that is a combination of settled rows, as a share of what they tell."""
    factors, bottom = share
    return share_of([(factors.get(pivot, 0), bottom * row[pivot]) for pivot, row in rows])
