"""Lines without fractions, made from broken lines.

A lattice is a dict of rows of integers by the index of their first integer other than 0, one row for each such index.
Its members are the sums of integer multiples of its rows.
"""

from halverules.broken import BrokenLines
from halverules.lines import Lines
from halverules.rows import sparse


def lessened(vector, other, times):
    """The vector less so many times the other one."""
    return [worth - times * minus for worth, minus in zip(vector, other)]


def left_over(lattice, vector):
    """The vector less some member of the lattice, zeros if it is itself one."""
    for at in range(len(vector)):
        if at in lattice and vector[at] != 0:
            vector = lessened(vector, lattice[at], vector[at] // lattice[at][at])
    return vector


def widened(lattice, vector):
    """The least lattice that has these members and the vector."""
    rows = dict(lattice)
    for at in range(len(vector)):
        while vector[at] != 0 and at in rows:
            row = rows[at]
            rows[at] = vector
            vector = lessened(row, vector, row[at] // vector[at])
        if vector[at] != 0:
            rows[at] = vector
            break
    return small_rows(rows, len(vector))


def small_rows(lattice, width):
    """The same lattice, its rows made small by the later ones."""
    rows = {}
    for at in reversed(range(width)):
        if at in lattice:
            row = lattice[at]
            for later in range(at + 1, width):
                if later in rows:
                    row = lessened(row, rows[later], row[later] // rows[later][later])
            rows[at] = row
    return rows


def exact_values(shares, values):
    """The values of shares of lines that have these values, None if one is no integer."""
    exact = []
    for factors, bottom in shares:
        worth, over = divmod(sum([factors[at] * values[at] for at in factors]), bottom)
        if over != 0:
            return None
        exact.append(worth)
    return exact


def value_lattice(broken):
    """The least lattice that has the values of all lines at n, for each n; None if one is no integer."""
    lattice = {}
    waiting = [broken.starts]
    at = 0
    while at < len(waiting):
        values = waiting[at]
        at += 1
        if values is None:
            return None
        if any(left_over(lattice, values)):
            lattice = widened(lattice, values)
            waiting.append(exact_values(broken.halves[0], values))
            waiting.append(exact_values(broken.halves[1], values))
    return lattice


def factors_in(lattice, vector):
    """The integers by which the rows of a lattice with all indexes add up to its member."""
    factors = []
    for at in range(len(vector)):
        times = vector[at] // lattice[at][at]
        factors.append(times)
        vector = lessened(vector, lattice[at], times)
    return factors


def whole_lines(broken, share):
    """Lines, and the mix of them that is the share of broken lines.

    None if a broken line has other than integers or is a combination of the others. All values of the share must be
    integers.
    """
    lattice = value_lattice(broken)
    width = len(broken.starts)
    if lattice is None or len(lattice) < width:
        return None
    evens, odds = [whole_half(lattice, shares) for shares in broken.halves]
    mix = sparse([exact_values([share], lattice[at])[0] for at in range(width)])
    return Lines(evens, odds, factors_in(lattice, broken.starts)), mix


def whole_half(lattice, shares):
    """The mixes that new lines are at 2 n or at 2 n + 1, from the shares that the broken lines are there."""
    width = len(shares)
    rows = [factors_in(lattice, exact_values(shares, lattice[at])) for at in range(width)]
    return [sparse([row[at] for row in rows]) for at in range(width)]


def whole_rule(evens, odds, firsts):
    """Lines, and the mix of them that is the first of the lines that a rule with these shares and first values tells.

    None if the rule does not fit, or tells other than integers, or a line that is a combination of the others.
    """
    if exact_values(evens, firsts) != firsts:
        return None
    return whole_lines(BrokenLines(evens, odds, firsts), ({0: 1} if firsts else {}, 1))
