"""sums: the values at all lesser numbers added up."""

import random
import unittest

from halverules.errors import TooMany
from halverules.halved import constant, number, single
from halverules.rules import rule
from halverules.sums import sums
from making import both, made_rule
from reference import basic_parts, check_least, check_values, told

n = number()


def plain_sums(value, up_to):
    """The sums of a plain function below the numbers up to this one."""
    found = [0]
    for m in range(up_to):
        found.append(found[-1] + value(m))
    return found


class SumsTest(unittest.TestCase):
    def compare(self, f, value):
        before = told(f)
        known = plain_sums(value, 4000)
        made = sums(f)
        check_values(self, made, known.__getitem__, range(300), (1023, 2048, 3999))
        # Parts up to the depth 4 are asked at less than 120.
        check_least(self, made, lambda m: known[m] if m < len(known) else made(m), range(120))
        self.assertEqual(made << 1, made + f)
        self.assertEqual((made << 1) - made, f)
        self.assertEqual(made(0), 0)
        self.assertEqual(told(f), before)

    def test_known_functions(self):
        self.assertEqual(sums(constant(0)), constant(0))
        for c in (1, -4, 10 ** 50):
            self.assertEqual(sums(constant(c)), c * n)
        self.assertEqual(2 * sums(n), n * n - n)
        self.assertEqual(6 * sums(n * n), 2 * n ** 3 - 3 * n * n + n)
        self.assertEqual(4 * sums(n ** 3), (n * n - n) ** 2)
        self.assertEqual(sums(n % 2), n // 2)
        for at in (0, 1, 5, 100):
            made = sums(single(at))
            self.assertEqual([made(m) for m in (0, at, at + 1, 10 ** 300)], [0, 0, 1, 1])

    def test_values_and_rules(self):
        for f, value in (
                (constant(3), lambda m: 3), (n, lambda m: m), (n * n, lambda m: m * m), (n // 3, lambda m: m // 3),
                (single(6), lambda m: int(m == 6)), (n * (n % 2), lambda m: m * (m % 2))):
            self.compare(f, value)

    def test_functions_by_rules(self):
        chance = random.Random(1)
        for many in (1, 2, 3, 4):
            for _ in range(6):
                self.compare(*both(made_rule(chance, many, 2, 2)))
        self.compare(*both(made_rule(chance, 2, 10 ** 11, 1)))

    def test_far_out(self):
        ones = rule(((1, 0), (0, 1)), ((1, 1), (0, 1)), (0, 1), (1, 0))
        made = sums(ones)
        for k in (1, 10, 100, 990):
            self.assertEqual(made(2 ** k), k * 2 ** k // 2)
        for m in (10 ** 300, 10 ** 300 - 1, 3 ** 600):
            self.assertEqual(sums(n)(m), m * (m - 1) // 2)
            self.assertEqual(sums(n * n)(m), m * (m - 1) * (2 * m - 1) // 6)
            self.assertEqual(sums(sums(n))(m), m * (m - 1) * (m - 2) // 6)

    def test_by_name(self):
        self.assertEqual(sums(f=n), sums(n))

    def test_16_and_17(self):
        seen = []
        for length in range(8, 16):
            at = 2 ** length - 1
            f = single(at)
            columns = sorted({*range(20), *[2 ** k for k in range(18)], *[2 ** k - 1 for k in range(18)]})
            rank = len(basic_parts(lambda m: int(m > at), columns, 20))
            seen.append(rank)
            if rank > 16:
                with self.assertRaises(TooMany):
                    sums(f)
            else:
                made = sums(f)
                self.assertEqual(made.rank, rank)
                check_values(self, made, lambda m: int(m > at), columns)
        self.assertIn(16, seen)
        self.assertIn(17, seen)
        f, _ = both(made_rule(random.Random(2), 16, 2, 2))
        self.assertEqual(f.rank, 16)
        with self.assertRaises(TooMany):
            sums(f)


if __name__ == "__main__":
    unittest.main()
