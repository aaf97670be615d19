"""The numbers that are new for a function, from which its least rule is found."""

import unittest

from halverules.errors import TooMany
from halverules.halved import constant, number, single
from halverules.least import new_numbers, part_rows
from halverules.lines import first_line, values_at
from reference import Space, basic_parts, part

n = number()
FUNCTIONS = [
    constant(0), constant(3), n, n + 5, n * n - n, single(0), single(1), single(22), single(4) - 3 * single(9),
    n % 5, n // 3, n >> 3, n * n // 2 + single(7), (n % 3) * n,
]


def plain_new_numbers(f, below):
    """The numbers less than `below` that are new for a function, from its values alone."""
    parts = [part(f, place) for place in basic_parts(f)]
    space = Space()
    return [m for m in range(below) if space.takes([value(m) for value in parts])]


class NewNumbersTest(unittest.TestCase):
    def found(self, f, most):
        return new_numbers(f.lines, part_rows(f.lines, first_line(f.lines)), most)

    def test_as_many_as_the_rank_and_in_order(self):
        for f in FUNCTIONS:
            found = self.found(f, 16)
            self.assertEqual([m for m, _ in found], plain_new_numbers(f, 128))
            self.assertEqual(len(found), f.rank)
            for m, values in found:
                self.assertEqual(values, values_at(f.lines, m))

    def test_halves_of_new_numbers_are_new(self):
        for f in FUNCTIONS:
            numbers = [m for m, _ in self.found(f, 16)]
            for m in numbers:
                self.assertIn(m // 2, numbers)

    def test_no_more_than_allowed(self):
        f = n * n
        self.assertEqual(len(self.found(f, 3)), 3)
        with self.assertRaises(TooMany):
            self.found(f, 2)


if __name__ == "__main__":
    unittest.main()
