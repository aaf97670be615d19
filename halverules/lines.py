"""Lines: functions with integer values that are told by one another, by halves.

A mix is a sum of integer multiples of lines: a dict of the factors other than 0 by the index of the line.
"""

# From so many binary digits for each line on, it is quicker to take four of them at once.
MANY_DIGITS = 30


class Lines:
    """The mixes that the lines are at 2 n, those that they are at 2 n + 1, as a pair, and their values at 0."""

    def __init__(self, evens, odds, starts):
        self.halves = (evens, odds)
        self.starts = starts


def moved(mix, shift):
    """The same mix of lines that stand so much further behind."""
    return {at + shift: mix[at] for at in mix}


def combined(factors, mixes):
    """The mix that is the sum of the factors times the mixes."""
    mixed = {}
    for at in factors:
        times = factors[at]
        mix = mixes[at]
        for to in mix:
            mixed[to] = mixed.get(to, 0) + times * mix[to]
    return {to: mixed[to] for to in mixed if mixed[to] != 0}


def half_mix(lines, mix, digit):
    """What the mix of the lines at 2 n + digit is as a mix of the lines at n."""
    return combined(mix, lines.halves[digit])


def mix_rests(mix, modulus):
    """The mix with the rests of its factors."""
    return {at: mix[at] % modulus for at in mix if mix[at] % modulus != 0}


def line_rests(lines, modulus):
    """The lines with the rests of their factors and of their first values."""
    evens, odds = lines.halves
    starts = [start % modulus for start in lines.starts]
    return Lines([mix_rests(mix, modulus) for mix in evens], [mix_rests(mix, modulus) for mix in odds], starts)


def sum_of(factors, values):
    """The sum of the factors times the values."""
    return sum([factors[at] * values[at] for at in factors])


def stepped_values(mixes, values):
    """The values of these mixes of lines that have these values."""
    # What sum_of does is written out here: it is done so often that the calls would take as long as the sums.
    return [sum([factors[at] * values[at] for at in factors]) for factors in mixes]


def next_values(lines, values, digit):
    """The values of all lines at 2 n + digit, from those at n."""
    return stepped_values(lines.halves[digit], values)


def first_values(lines, many):
    """The values of all lines at so many numbers, from 0 on, at least at 0."""
    known = [lines.starts]
    for n in range(1, many):
        known.append(next_values(lines, known[n // 2], n % 2))
    return known


def values_at(lines, n):
    """The values of all lines at n."""
    length = n.bit_length()
    if length >= MANY_DIGITS * len(lines.starts):
        return values_far_out(lines, n)
    values = lines.starts
    for at in reversed(range(length)):
        values = next_values(lines, values, n >> at & 1)
        # Where all lines are 0 they stay so.
        if not any(values):
            break
    return values


def values_far_out(lines, n):
    """The values of all lines at n, by four digits at once."""
    pairs = [[combined(low, high) for low in lows] for high in lines.halves for lows in lines.halves]
    fours = {}
    values = lines.starts
    for at in reversed(range(0, n.bit_length(), 4)):
        digits = n >> at & 15
        if digits not in fours:
            fours[digits] = [combined(low, pairs[digits >> 2]) for low in pairs[digits & 3]]
        values = stepped_values(fours[digits], values)
        if not any(values):
            break
    return values
