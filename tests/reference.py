"""What the tests compare the program with: plain Python functions, looked at number by number.

Ranks and basic parts are found here from the values at the first numbers alone, by elimination modulo a great prime.
That is no proof, but it shares nothing with the program.
"""

from fractions import Fraction

PRIME = 2 ** 61 - 1
GREAT = (2 ** 40, 2 ** 64 - 1, 10 ** 30 + 7, 3 ** 200, 10 ** 300 - 1, 10 ** 300)


def part(value, place):
    """The part (k, r) of a plain function."""
    depth, start = place
    return lambda n: value((n << depth) + start)


class Space:
    """Vectors modulo the prime, kept by elimination."""

    def __init__(self):
        self.rows = []

    def takes(self, vector):
        """Whether the vector is no combination of the earlier ones; then it is kept."""
        vector = [worth % PRIME for worth in vector]
        for pivot, row in self.rows:
            if vector[pivot]:
                times = vector[pivot]
                vector = [(a - times * b) % PRIME for a, b in zip(vector, row)]
        for pivot, worth in enumerate(vector):
            if worth:
                turn = pow(worth, -1, PRIME)
                self.rows.append((pivot, [a * turn % PRIME for a in vector]))
                return True
        return False


def basic_parts(value, columns=range(128), most=17):
    """The basic parts of a plain function in their order, at most so many."""
    space = Space()
    found = []
    level = [(0, 0)]
    while level:
        fresh = []
        for place in level:
            if len(found) == most:
                return tuple(found)
            own = part(value, place)
            if space.takes([own(n) for n in columns]):
                found.append(place)
                fresh.append(place)
        level = [(depth + 1, start + (digit << depth)) for digit in (0, 1) for depth, start in fresh]
    return tuple(found)


def different_parts(value, columns=range(128), most=200):
    """How many different parts a plain function has."""
    seen = set()
    level = [(0, 0)]
    while level:
        fresh = []
        for place in level:
            own = part(value, place)
            key = tuple(own(n) for n in columns)
            if key not in seen and len(seen) < most:
                seen.add(key)
                fresh.append(place)
        level = [(depth + 1, start + (digit << depth)) for digit in (0, 1) for depth, start in fresh]
    return len(seen)


def check_values(test, function, value, columns=range(128), great=GREAT):
    """The function has the values of the plain function, at small numbers and at great ones."""
    for n in [*columns, *great]:
        got = function(n)
        test.assertIs(type(got), int)
        test.assertEqual(got, value(n), n)


def check_least(test, function, value, columns=range(128)):
    """Basic parts, equations and first values are those of the plain function."""
    basis = basic_parts(value, columns)
    test.assertEqual(function.basis, basis)
    test.assertEqual(function.rank, len(basis))
    test.assertEqual(function.firsts, tuple(part(value, place)(0) for place in basis))
    test.assertIs(type(function.equations), tuple)
    test.assertEqual(len(function.equations), len(basis))
    # The basic parts at a number, so that they are worked out once.
    table = {n: [part(value, place)(n) for place in basis] for n in columns}
    for (depth, start), halves in zip(basis, function.equations):
        test.assertIs(type(halves), tuple)
        test.assertEqual(len(halves), 2)
        for digit, row in enumerate(halves):
            check_row(test, row, len(basis))
            own = part(value, (depth + 1, start + (digit << depth)))
            factors = [(at, Fraction(*pair)) for at, pair in enumerate(row) if pair[0]]
            for n in columns:
                test.assertEqual(sum(factor * table[n][at] for at, factor in factors), own(n))


def check_row(test, row, width):
    """It is a tuple of so many fractions in lowest terms."""
    test.assertIs(type(row), tuple)
    test.assertEqual(len(row), width)
    for pair in row:
        test.assertIs(type(pair), tuple)
        top, bottom = pair
        test.assertIs(type(top), int)
        test.assertIs(type(bottom), int)
        test.assertGreaterEqual(bottom, 1)
        fraction = Fraction(top, bottom)
        test.assertEqual(pair, (fraction.numerator, fraction.denominator))


def check(test, function, value, columns=range(128), great=GREAT):
    """The function is the plain function, told by its least rule."""
    check_values(test, function, value, columns, great)
    check_least(test, function, value, columns)


def told(function):
    """All that a function tells of itself."""
    return function.rank, function.basis, function.equations, function.firsts
