"""Lines that are made from other lines, so that the results of operators are mixes of them."""

from halverules.lines import Lines, moved, values_at


def beside(first, second):
    """The lines of both, those of the second behind those of the first."""
    width = len(first.starts)
    evens, odds = [
        [*mixes, *[moved(mix, width) for mix in others]] for mixes, others in zip(first.halves, second.halves)]
    return Lines(evens, odds, [*first.starts, *second.starts])


def crossed(first, second):
    """The products of each line of the first with each line of the second."""
    width = len(second.starts)
    evens, odds = [
        [crossed_mix(mix, other, width) for mix in mixes for other in others]
        for mixes, others in zip(first.halves, second.halves)]
    return Lines(evens, odds, [start * other for start in first.starts for other in second.starts])


def crossed_mix(mix, other, width):
    """The product of two mixes as a mix of the products of their lines."""
    return {at * width + to: mix[at] * other[to] for at in mix for to in other}


def single_lines(many):
    """The functions that are 1 at 0, at 1, .., so many of them."""
    return Lines(
        [{at // 2: 1} if at % 2 == 0 else {} for at in range(many)],
        [{at // 2: 1} if at % 2 == 1 else {} for at in range(many)],
        [1, *([0] * (many - 1))])


def offsets_of(step, start):
    """All c for which f(step n + c) is used where f(step n + start) is told by halves, start ahead."""
    offsets = [start]
    at = 0
    while at < len(offsets):
        for digit in (0, 1):
            offset = (offsets[at] + step * digit) // 2
            if offset not in offsets:
                offsets.append(offset)
        at += 1
    return offsets


def thinned(lines, step, start):
    """The lines at step n + c, 0 where this is less than 0, for all c of offsets_of in their order."""
    offsets = offsets_of(step, start)
    width = len(lines.starts)
    places = {offset: at * width for at, offset in enumerate(offsets)}
    evens = []
    odds = []
    starts = []
    for offset in offsets:
        evens.extend(thinned_half(lines, offset, places))
        odds.extend(thinned_half(lines, offset + step, places))
        starts.extend(values_from(lines, offset))
    return Lines(evens, odds, starts)


def thinned_half(lines, offset, places):
    """The mixes that the lines at 2 * step * n + offset are of the lines at step * n + c."""
    half, digit = divmod(offset, 2)
    return [moved(mix, places[half]) for mix in lines.halves[digit]]


def values_from(lines, n):
    """The values of all lines at n, zeros if it is less than 0."""
    if n < 0:
        return [0] * len(lines.starts)
    return values_at(lines, n)


def spread(lines, times):
    """For each rest by times, from 0 on, the lines at n // times where n has this rest, 0 elsewhere."""
    width = len(lines.starts)
    evens, odds = [
        [spread_mix(lines, times, rest, at, digit) for rest in range(times) for at in range(width)] for digit in (0, 1)]
    return Lines(evens, odds, [*lines.starts, *([0] * (width * (times - 1)))])


def spread_mix(lines, times, rest, at, digit):
    """What the line of spread for this rest and the line at this index is at 2 n + digit."""
    mixed = {}
    for before in range(times):
        half, after = divmod(2 * before + digit, times)
        if after == rest:
            mix = lines.halves[half][at]
            for to in mix:
                mixed[before * len(lines.starts) + to] = mix[to]
    return mixed


def spread_everywhere(lines, mix, times):
    """The mix of the lines of spread that is the mix of the lines at n // times."""
    width = len(lines.starts)
    return {rest * width + at: mix[at] for rest in range(times) for at in mix}
