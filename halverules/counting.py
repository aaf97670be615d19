"""Which numbers are the members of a set, and how many there are.

A level is told by the parts that are reached with so many digits, from the lowest one on: the places of their even
halves, and those of their odd halves, among the parts that are reached with one digit more; these parts; and whether
they are the same ones again, in the same order.
"""


def is_member(parts, number):
    """Whether the number is in the set with these parts."""
    at = 0
    for place in range(number.bit_length()):
        at = parts.halves[at][number >> place & 1]
    return parts.starts[at] == 1


def level_of(parts, reached):
    """The level of these parts."""
    found = {}
    for at in reached:
        for half in parts.halves[at]:
            if half not in found:
                found[half] = len(found)
    settled = len(found) == len(reached) and all([at in found for at in reached])
    behind = reached if settled else list(found)
    places = {at: place for place, at in enumerate(behind)}
    evens = [places[parts.halves[at][0]] for at in reached]
    odds = [places[parts.halves[at][1]] for at in reached]
    return evens, odds, behind, settled


def next_level(parts, levels, reached):
    """The level of these parts, which stands behind the other ones."""
    if levels:
        _, _, _, settled = levels[-1]
        if settled:
            return levels[-1]
    return level_of(parts, reached)


def count_below(parts, below):
    """How many members of the set are less than `below`."""
    length = below.bit_length()
    levels = []
    reached = [0]
    for _ in range(length):
        levels.append(next_level(parts, levels, reached))
        _, _, reached, _ = levels[-1]
    # Of each part reached: whether it has the number of the higher digits, and how many lesser numbers of as many.
    high = [parts.starts[at] for at in reached]
    less = [0 for _ in reached]
    for at in reversed(range(length)):
        evens, odds, _, _ = levels[at]
        if below >> at & 1 == 1:
            less = [less[even] + less[odd] + high[even] for even, odd in zip(evens, odds)]
            high = [high[odd] for odd in odds]
        else:
            less = [less[even] + less[odd] for even, odd in zip(evens, odds)]
            high = [high[even] for even in evens]
    return less[0]


def next_ways(level, ways):
    """In how many ways the parts behind a level are reached, if those of the level are in so many ways."""
    evens, odds, behind, _ = level
    further = [0 for _ in behind]
    for even, odd, way in zip(evens, odds, ways):
        further[even] = further[even] + way
        further[odd] = further[odd] + way
    return further


def ways_among(ways, marks):
    """In how many ways parts are reached that have the mark 1."""
    return sum([way for way, mark in zip(ways, marks) if mark == 1])


def member_at(parts, index, most):
    """The member before which there are so many; None if there is none with at most so many digits."""
    levels = []
    ways = [[1]]
    reached = [0]
    # There are not so many numbers with fewer digits than the index, so their members need not be counted.
    while len(ways) <= index.bit_length() or ways_among(ways[-1], [parts.starts[at] for at in reached]) <= index:
        if len(ways) > most:
            return None
        levels.append(next_level(parts, levels, reached))
        ways.append(next_ways(levels[-1], ways[-1]))
        _, _, reached, _ = levels[-1]
    high = [parts.starts[at] for at in reached]
    member = 0
    for at in reversed(range(len(levels))):
        evens, odds, _, _ = levels[at]
        even_high = [high[even] for even in evens]
        lesser = ways_among(ways[at], even_high)
        if index < lesser:
            high = even_high
            member = 2 * member
        else:
            index = index - lesser
            high = [high[odd] for odd in odds]
            member = 2 * member + 1
    return member


def has_last(parts):
    """Whether the set with these parts, which all differ, has no members or a greatest one."""
    # A finite set has more parts than its greatest member has digits, so with these gone no more than 0 is left.
    reached = [0]
    for _ in parts.halves:
        _, _, behind, settled = level_of(parts, reached)
        if settled:
            break
        reached = behind
    return all([is_nothing_but_0(parts, at) for at in reached])


def is_nothing_but_0(parts, at):
    """Whether a part has no members or 0 alone."""
    even, odd = parts.halves[at]
    return even == at and parts.halves[odd] == (odd, odd) and parts.starts[odd] == 0
