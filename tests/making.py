"""Rules, loops and costs made by chance, and what they are in plain Python, number by number."""

from halverules.rules import rule

GREATEST = 10 ** 12


def dot(row, values):
    return sum([a * b for a, b in zip(row, values)])


class PlainRule:
    """The functions of a rule, as the document tells them: `lines` at n, and the sum with the factors `told`."""

    def __init__(self, even, odd, firsts, told):
        self.rows = even, odd
        self.known = {0: tuple(firsts)}
        self.told = told

    def lines(self, n):
        digits = []
        while n not in self.known:
            digits.append(n % 2)
            n //= 2
        values = self.known[n]
        for digit in reversed(digits):
            values = tuple([dot(row, values) for row in self.rows[digit]])
            n = 2 * n + digit
            # Great numbers are not kept: there are too many of them.
            if n < 2 ** 24:
                self.known[n] = values
        return values

    def __call__(self, n):
        return dot(self.told, self.lines(n))


def fitting_row(chance, at, firsts, size):
    """A row that times the first values adds up to the one at this index."""
    row = [int(to == at) for to in range(len(firsts))]
    for _ in range(chance.randint(0, 3) if len(firsts) > 1 else 0):
        one, other = chance.sample(range(len(firsts)), 2)
        times = chance.randint(-size, size)
        row[one] += times * firsts[other]
        row[other] -= times * firsts[one]
    return tuple(row)


def made_rule(chance, many, size=3, first_size=3):
    """The four arguments of a rule that fits."""
    while True:
        firsts = tuple(chance.randint(-first_size, first_size) for _ in range(many))
        even = tuple(fitting_row(chance, at, firsts, size) for at in range(many))
        odd = tuple(tuple(chance.randint(-size, size) for _ in range(many)) for _ in range(many))
        told = tuple(chance.randint(-size, size) for _ in range(many))
        if all(abs(entry) <= GREATEST for row in (*even, *odd, firsts, told) for entry in row):
            return even, odd, firsts, told


def both(arguments):
    """The function by a rule and the plain one."""
    return rule(*arguments), PlainRule(*arguments)


def reordered(arguments, order):
    """The same rule with its lines in another order."""
    even, odd, firsts, told = arguments
    return (
        tuple(tuple(even[at][to] for to in order) for at in order),
        tuple(tuple(odd[at][to] for to in order) for at in order),
        tuple(firsts[at] for at in order),
        tuple(told[at] for at in order))


def mixed(arguments, one, other, times):
    """The same function by a rule whose line `one` is the old one and so many times the line `other`."""
    even, odd, firsts, told = [list(part) for part in arguments]
    for rows in (even, odd):
        rows[one] = tuple(a + times * b for a, b in zip(rows[one], rows[other]))
        # In the place of the old line stands the new one less so many times the other.
        for at, row in enumerate(rows):
            row = list(row)
            row[other] -= times * row[one]
            rows[at] = tuple(row)
    firsts[one] += times * firsts[other]
    told[other] -= times * told[one]
    return tuple(even), tuple(odd), tuple(firsts), tuple(told)


def with_further_line(arguments, chance):
    """The same function by a rule with a line more, which is a combination of the others."""
    even, odd, firsts, told = arguments
    many = len(firsts)
    factors = [chance.randint(-2, 2) for _ in range(many)]

    def wider(rows):
        last = tuple(sum(factors[at] * rows[at][to] for at in range(many)) for to in range(many))
        return (*[(*row, 0) for row in rows], (*last, 0))

    # Half of the new line's share is told by the others instead.
    return (
        wider(even), wider(odd), (*firsts, dot(factors, firsts)),
        (*[own - 2 * factor for own, factor in zip(told, factors)], 2))
