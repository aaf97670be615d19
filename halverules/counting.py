"""Which numbers are the members of a set, and how many there are."""


def is_member(parts, number):
    """Whether the number is in the set with these parts."""
    at = 0
    for place in range(number.bit_length()):
        at = parts.halves[at][number >> place & 1]
    return parts.starts[at] == 1


def next_ways(parts, ways):
    """In how many ways each part is reached with one more digit, if it is reached in so many ways."""
    further = {}
    for at in ways:
        for half in parts.halves[at]:
            further[half] = further.get(half, 0) + ways[at]
    return further


def reached(ways, high):
    """In how many ways a part is reached that has the number of the higher digits, if `high` tells which have it."""
    return sum([ways[at] for at in ways if high[at] == 1])


def halved_high(parts, high, digit):
    """Which parts have the number of the higher digits and this one, if `high` tells which have that without it."""
    return [high[pair[digit]] for pair in parts.halves]


def count_below(parts, below):
    """How many members of the set are less than `below`."""
    length = below.bit_length()
    levels = [{0: 1}]
    for at in range(length):
        levels.append(next_ways(parts, levels[at]))
    count = 0
    high = parts.starts
    for at in reversed(range(length)):
        digit = below >> at & 1
        if digit == 1:
            # All numbers that begin like this one, but with a 0 here, are less, whatever their lower digits are.
            count = count + reached(levels[at], halved_high(parts, high, 0))
        high = halved_high(parts, high, digit)
    return count


def member_at(parts, index, most):
    """The member before which there are so many; None if there is none with at most so many digits."""
    levels = [{0: 1}]
    while reached(levels[-1], parts.starts) <= index:
        if len(levels) > most:
            return None
        levels.append(next_ways(parts, levels[-1]))
    member = 0
    high = parts.starts
    for at in reversed(range(len(levels) - 1)):
        evens = halved_high(parts, high, 0)
        lesser = reached(levels[at], evens)
        if index < lesser:
            high = evens
            member = 2 * member
        else:
            index = index - lesser
            high = halved_high(parts, high, 1)
            member = 2 * member + 1
    return member


def has_last(parts):
    """Whether the set with these parts, which all differ, has no members or a greatest one."""
    # A finite set has more parts than its greatest member has digits, so with these gone no more than 0 is left.
    level = {0: True}
    for _ in parts.halves:
        level = {half: True for at in level for half in parts.halves[at]}
    return all([is_nothing_but_0(parts, at) for at in level])


def is_nothing_but_0(parts, at):
    """Whether a part has no members or 0 alone."""
    even, odd = parts.halves[at]
    return even == at and parts.halves[odd] == (odd, odd) and parts.starts[odd] == 0
