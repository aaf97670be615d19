"""Lines that are made from other lines, so that the results of operators are mixes of them."""

from math import lcm

from halverules.lines import Lines, lowest, moved, values_at


def beside(first, second):
    """The lines of both, those of the second behind those of the first."""
    width = len(first.starts)
    halves = [(moved(even, width), moved(odd, width)) for even, odd in second.halves]
    return Lines([*first.halves, *halves], [*first.starts, *second.starts])


def summed_mix(first, second, times):
    """The mix of the lines of beside that is the first line of the one and so many times that of the other."""
    factors = {}
    if first.starts:
        factors[0] = 1
    if second.starts:
        factors[len(first.starts)] = times
    return factors, 1


def crossed(first, second):
    """The products of each line of the first with each line of the second."""
    width = len(second.starts)
    halves = [
        (crossed_mix(even, other_even, width), crossed_mix(odd, other_odd, width))
        for even, odd in first.halves
        for other_even, other_odd in second.halves
    ]
    return Lines(halves, [start * other for start in first.starts for other in second.starts])


def crossed_mix(mix, other, width):
    """The product of two mixes as a mix of the products of their lines."""
    factors, bottom = mix
    others, under = other
    both = {at * width + to: factors[at] * others[to] for at in factors for to in others}
    return lowest(both, bottom * under)


def offsets_of(step, start):
    """All c for which f(step n + c) is used where f(step n + start) is told by halves, start ahead."""
    offsets = [start]
    at = 0
    while at < len(offsets):
        for digit in (0, 1):
            offset = (offsets[at] + step * digit) // 2
            if offset not in offsets:
                offsets.append(offset)
        at += 1
    return offsets


def thinned(lines, step, start):
    """The lines at step n + c, 0 where this is less than 0, for all c of offsets_of in their order."""
    offsets = offsets_of(step, start)
    width = len(lines.starts)
    places = {offset: at * width for at, offset in enumerate(offsets)}
    halves = []
    starts = []
    for even in offsets:
        odd = even + step
        for line in lines.halves:
            halves.append((moved(line[even % 2], places[even // 2]), moved(line[odd % 2], places[odd // 2])))
        starts.extend(values_from(lines, even))
    return Lines(halves, starts)


def values_from(lines, n):
    """The values of all lines at n, zeros if it is less than 0."""
    if n < 0:
        return [0] * len(lines.starts)
    return values_at(lines, n)


def spread(lines, times):
    """For each rest by times, from 0 on, the lines at n // times where n has this rest, 0 elsewhere."""
    width = len(lines.starts)
    halves = [
        (spread_mix(line, times, rest, width, 0), spread_mix(line, times, rest, width, 1))
        for rest in range(times)
        for line in lines.halves
    ]
    return Lines(halves, [*lines.starts, *([0] * (width * (times - 1)))])


def spread_mix(line, times, rest, width, digit):
    """What the line of spread for this rest is at 2 n + digit."""
    shared = lcm(line[0][1], line[1][1])
    mixed = {}
    for before in range(times):
        half, after = divmod(2 * before + digit, times)
        if after == rest:
            factors, bottom = line[half]
            for at in factors:
                mixed[before * width + at] = factors[at] * (shared // bottom)
    return lowest(mixed, shared)


def spread_first(lines, times):
    """The mix of the lines of spread that is the first line at n // times."""
    factors = {}
    if lines.starts:
        for rest in range(times):
            factors[rest * len(lines.starts)] = 1
    return factors, 1
