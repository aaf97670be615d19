"""Rules, loops and costs made by chance, and what they are in plain Python, number by number."""

from halverules.rules import rule

GREATEST = 10 ** 12


def dot(row, values):
    return sum([a * b for a, b in zip(row, values)])


class PlainRule:
    """The functions of a rule, as the document tells them: `lines` at n, and the sum with the factors `told`."""

    def __init__(self, even, odd, firsts, told):
        self.rows = even, odd
        self.known = {0: tuple(firsts)}
        self.told = told

    def lines(self, n):
        digits = []
        while n not in self.known:
            digits.append(n % 2)
            n //= 2
        values = self.known[n]
        for digit in reversed(digits):
            values = tuple([dot(row, values) for row in self.rows[digit]])
            n = 2 * n + digit
            # Great numbers are not kept: there are too many of them.
            if n < 2 ** 24:
                self.known[n] = values
        return values

    def __call__(self, n):
        return dot(self.told, self.lines(n))


def fitting_row(chance, at, firsts, size):
    """A row that times the first values adds up to the one at this index."""
    row = [int(to == at) for to in range(len(firsts))]
    for _ in range(chance.randint(0, 3) if len(firsts) > 1 else 0):
        one, other = chance.sample(range(len(firsts)), 2)
        times = chance.randint(-size, size)
        row[one] += times * firsts[other]
        row[other] -= times * firsts[one]
    return tuple(row)


def made_rule(chance, many, size=3, first_size=3):
    """The four arguments of a rule that fits."""
    while True:
        firsts = tuple(chance.randint(-first_size, first_size) for _ in range(many))
        even = tuple(fitting_row(chance, at, firsts, size) for at in range(many))
        odd = tuple(tuple(chance.randint(-size, size) for _ in range(many)) for _ in range(many))
        told = tuple(chance.randint(-size, size) for _ in range(many))
        if all(abs(entry) <= GREATEST for row in (*even, *odd, firsts, told) for entry in row):
            return even, odd, firsts, told


def both(arguments):
    """The function by a rule and the plain one."""
    return rule(*arguments), PlainRule(*arguments)


def reordered(arguments, order):
    """The same rule with its lines in another order."""
    even, odd, firsts, told = arguments
    return (
        tuple(tuple(even[at][to] for to in order) for at in order),
        tuple(tuple(odd[at][to] for to in order) for at in order),
        tuple(firsts[at] for at in order),
        tuple(told[at] for at in order))


def mixed(arguments, one, other, times):
    """The same function by a rule whose line `one` is the old one and so many times the line `other`."""
    even, odd, firsts, told = [list(part) for part in arguments]
    for rows in (even, odd):
        rows[one] = tuple(a + times * b for a, b in zip(rows[one], rows[other]))
        # In the place of the old line stands the new one less so many times the other.
        for at, row in enumerate(rows):
            row = list(row)
            row[other] -= times * row[one]
            rows[at] = tuple(row)
    firsts[one] += times * firsts[other]
    told[other] -= times * told[one]
    return tuple(even), tuple(odd), tuple(firsts), tuple(told)


def with_further_line(arguments, chance):
    """The same function by a rule with a line more, which is a combination of the others."""
    even, odd, firsts, told = arguments
    many = len(firsts)
    factors = [chance.randint(-2, 2) for _ in range(many)]

    def wider(rows):
        last = tuple(sum(factors[at] * rows[at][to] for at in range(many)) for to in range(many))
        return (*[(*row, 0) for row in rows], (*last, 0))

    # Half of the new line's share is told by the others instead.
    return (
        wider(even), wider(odd), (*firsts, dot(factors, firsts)),
        (*[own - 2 * factor for own, factor in zip(told, factors)], 2))


def signs(many):
    """The sum of so many lines whose signs the digits change, with 2 ** many different parts.

    Line i changes its sign with each 1 at a place that leaves the rest i by `many`.
    """
    before = [tuple(int(to == (at - 1) % many) for to in range(many)) for at in range(many)]
    odd = [tuple(-worth if at == 0 else worth for worth in row) for at, row in enumerate(before)]

    def value(n):
        total = 0
        for at in range(many):
            total += (-1) ** sum(n >> place & 1 for place in range(at, n.bit_length(), many))
        return total

    return rule(tuple(before), tuple(odd), (1,) * many, (1,) * many), value


def counted_signs(many):
    """How many of these lines are 1: with as many different parts, and from 0 to `many`."""
    ones, value = signs(many)
    # As a rule of lines that are 0 or 1, with a last one that is 1 everywhere.
    even = [tuple(int(to == (at - 1) % many) for to in range(many)) + (0,) for at in range(many)]
    odd = [tuple(-worth for worth in row[:-1]) + (1,) if at == 0 else row for at, row in enumerate(even)]
    last = (0,) * many + (1,)
    counted = rule((*even, last), (*odd, last), (1,) * (many + 1), (1,) * many + (0,))
    assert counted * 2 - many == ones
    return counted, lambda n: (value(n) + many) // 2


def turning_arguments(lines, chosen):
    """A rule whose lines change places by the digits; so many of them are added up.

    An even digit turns all lines but the first one round, an odd one exchanges the first two. One line is 1 at each
    number, and all others are 0. There are as many parts as ways to choose so many of the lines.
    """
    turned = [0, *range(2, lines), 1]
    exchanged = [1, 0, *range(2, lines)]
    even, odd = [tuple(tuple(int(to == place) for to in range(lines)) for place in order) for order in (turned, exchanged)]
    first = (1,) + (0,) * (lines - 1)
    return even, odd, first, (1,) * chosen + (0,) * (lines - chosen)


def turning(lines, chosen):
    """The function by such a rule, and the plain one, which follows the chosen lines from the lowest digit on."""
    arguments = turning_arguments(lines, chosen)

    def value(n):
        places = list(range(chosen))
        while n:
            if n % 2:
                places = [1 - place if place < 2 else place for place in places]
            else:
                places = [place if place == 0 else place % (lines - 1) + 1 for place in places]
            n //= 2
        return int(0 in places)

    return rule(*arguments), value
