"""The rests of a mix of lines by a modulus, and of all its parts.

What is told by halves has few different parts if only rests are asked for; each of them is kept by the rests of its
factors.
"""

from halverules.lines import half_mix, line_rests, mix_rests, next_values, sum_of
from halverules.parts import Parts
from halverules.whole import left_over, widened


def rest_parts(lines, mix, modulus, most):
    """The different parts of the rests of a mix by the modulus, None if there are more than `most`."""
    lines = line_rests(lines, modulus)
    seen = value_rests(lines, modulus)
    parts = [mix_rests(mix, modulus)]
    places = {seen_as(parts[0], seen, modulus): 0}
    halves = []
    at = 0
    while at < len(parts):
        pair = []
        for digit in (0, 1):
            part = mix_rests(half_mix(lines, parts[at], digit), modulus)
            mark = seen_as(part, seen, modulus)
            if mark not in places:
                if len(parts) == most:
                    return None
                places[mark] = len(parts)
                parts.append(part)
            pair.append(places[mark])
        halves.append((pair[0], pair[1]))
        at += 1
    return Parts(halves, [sum_of(part, lines.starts) % modulus for part in parts])


def value_rests(lines, modulus):
    """Rows of values of which the values of all lines at n are sums of integer multiples, for each n, but for rests."""
    width = len(lines.starts)
    lattice = {place: [modulus if to == place else 0 for to in range(width)] for place in range(width)}
    waiting = [lines.starts]
    at = 0
    while at < len(waiting):
        values = [worth % modulus for worth in waiting[at]]
        at += 1
        if any(left_over(lattice, values)):
            lattice = widened(lattice, values)
            waiting.append(next_values(lines, values, 0))
            waiting.append(next_values(lines, values, 1))
    return [lattice[place] for place in range(width)]


def seen_as(part, seen, modulus):
    """What the rests of a part are at the values seen: two parts have the same rests for all n if this is the same."""
    return tuple([sum_of(part, values) % modulus for values in seen])
