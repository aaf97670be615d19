"""Lines without fractions, and the rests of mixes of them.

A lattice is a dict of rows of integers by the index of their first integer other than 0, one row for each such index.
Its members are the sums of integer multiples of its rows.
"""

from halverules.lines import Lines, half_mix, next_values, sum_of
from halverules.rows import sparse


def lessened(vector, other, times):
    """The vector less so many times the other one."""
    return [worth - times * minus for worth, minus in zip(vector, other)]


def left_over(lattice, vector):
    """The vector less some member of the lattice, zeros if it is itself one."""
    for at in range(len(vector)):
        if at in lattice:
            vector = lessened(vector, lattice[at], vector[at] // lattice[at][at])
    return vector


def widened(lattice, vector):
    """The least lattice that has these members and the vector."""
    rows = dict(lattice)
    for at in range(len(vector)):
        while vector[at] != 0 and at in rows:
            row = rows[at]
            rows[at] = vector
            vector = lessened(row, vector, row[at] // vector[at])
        if vector[at] != 0:
            rows[at] = vector
            break
    return settled(rows, len(vector))


def settled(lattice, width):
    """The same lattice, its rows made small by the later ones."""
    rows = {}
    for at in reversed(range(width)):
        if at in lattice:
            row = lattice[at]
            for later in range(at + 1, width):
                if later in rows:
                    row = lessened(row, rows[later], row[later] // rows[later][later])
            rows[at] = row
    return rows


def value_lattice(lines):
    """The least lattice that has the values of all lines at n, for each n."""
    lattice = {}
    waiting = [lines.starts]
    at = 0
    while at < len(waiting):
        values = waiting[at]
        at += 1
        if any([worth != 0 for worth in left_over(lattice, values)]):
            lattice = widened(lattice, values)
            waiting.append(next_values(lines, values, 0))
            waiting.append(next_values(lines, values, 1))
    return lattice


def factors_in(lattice, vector):
    """The integers by which the rows of a lattice with all indexes add up to its member."""
    factors = []
    for at in range(len(vector)):
        times = vector[at] // lattice[at][at]
        factors.append(times)
        vector = lessened(vector, lattice[at], times)
    return factors


def whole_lines(lines):
    """Lines with integer factors, and the mix of them that is the first of the given lines.

    No given line may be a combination of the others. The values of the new lines make up the whole lattice of
    integers, so a modulus that divides all values of a mix of them divides its factors, too.
    """
    width = len(lines.starts)
    lattice = value_lattice(lines)
    evens = [factors_in(lattice, next_values(lines, lattice[at], 0)) for at in range(width)]
    odds = [factors_in(lattice, next_values(lines, lattice[at], 1)) for at in range(width)]
    halves = [(column_mix(evens, at), column_mix(odds, at)) for at in range(width)]
    first = sparse([lattice[at][0] for at in range(width)])
    return Lines(halves, factors_in(lattice, lines.starts)), (first, 1)


def column_mix(rows, at):
    """The mix with the items at this index as its factors."""
    return sparse([row[at] for row in rows]), 1


def rest_lines(lines, mix, modulus, most):
    """The rests by the modulus of all parts of a mix, the different ones, as lines; that of the mix is the first.

    The lines and the mix are those of whole_lines. None if there are more rests than `most`.
    """
    width = len(lines.starts)
    rows = [rests_of(mix, width, modulus)]
    places = {rows[0]: 0}
    halves = []
    at = 0
    while at < len(rows):
        part = (sparse(rows[at]), 1)
        at += 1
        children = [rests_of(half_mix(lines, part, digit), width, modulus) for digit in (0, 1)]
        for row in children:
            if row not in places:
                if len(rows) == most:
                    return None
                places[row] = len(rows)
                rows.append(row)
        even, odd = children
        halves.append((({places[even]: 1}, 1), ({places[odd]: 1}, 1)))
    return Lines(halves, [sum_of(sparse(row), lines.starts) % modulus for row in rows])


def rests_of(mix, width, modulus):
    """The rests of the factors of a mix without a bottom."""
    factors, _ = mix
    return tuple([factors.get(at, 0) % modulus for at in range(width)])
