"""Values far out: in closed form, and digit by digit at numbers of up to 301 digits."""

import random
import unittest

from halverules.costs import costs
from halverules.halved import constant, number, single
from halverules.loops import from_high, from_low
from halverules.rules import rule
from halverules.sums import sums
from making import made_rule

n = number()
LARGEST = 10 ** 300
LENGTHS = (1, 2, 3, 4, 5, 8, 15, 16, 17, 63, 64, 65, 76, 77, 78, 79, 80, 81, 82, 83, 84, 128, 500, 995, 996)


def far_out():
    """0, 1, the greatest number, and those beside powers of 2 and of 10."""
    found = {0, 1, 2, 3, LARGEST, LARGEST - 1, LARGEST // 2, LARGEST // 3}
    for length in LENGTHS:
        found |= {2 ** length - 1, 2 ** length, 2 ** length + 1}
    chance = random.Random(1)
    for length in LENGTHS:
        found.add(chance.getrandbits(length))
    return sorted(m for m in found if m <= LARGEST)


class DigitByDigitTest(unittest.TestCase):
    def same(self, f, value):
        for m in far_out():
            got = f(m)
            self.assertIs(type(got), int)
            self.assertEqual(got, value(m), m)

    def test_first_functions(self):
        for c in (0, 1, -7, 10 ** 300):
            self.same(constant(c), lambda m: c)
        self.same(n, lambda m: m)
        self.same(n * n * n, lambda m: m ** 3)
        for at in (0, 1, 2, 5, 14, 15, 16, 255, 4095, 2 ** 14, 32767):
            self.same(single(at), lambda m: int(m == at))
            self.same(single(at) * -5, lambda m: -5 * (m == at))

    def test_rules(self):
        chance = random.Random(2)
        for many in (1, 2, 3, 4, 8):
            for size in (2, 10 ** 11):
                arguments = made_rule(chance, many, size, 1)
                even, odd, firsts, told = arguments

                def lines(m):
                    values = firsts
                    for digit in bin(m)[2:]:
                        values = [sum(a * b for a, b in zip(row, values)) for row in (odd if digit == "1" else even)]
                    return sum(a * b for a, b in zip(told, values))

                f = rule(*arguments)
                for m in (0, 1, 2 ** 80 - 1, 2 ** 81, 10 ** 100, LARGEST - 1, LARGEST, chance.randrange(LARGEST)):
                    self.assertEqual(f(m), lines(m))

    def test_loops(self):
        start, zero, one, answer = (1, -2), ((1, 1), (0, 2)), ((0, 1), (-1, 1)), (3, 1)
        for m in far_out():
            digits = bin(m)[2:] if m else ""
            for call, order in ((from_high, digits), (from_low, digits[::-1])):
                a, b = start
                for digit in order:
                    a, b = (b, b - a) if digit == "1" else (a + b, 2 * b)
                self.assertEqual(call(start, zero, one, answer)(m), 3 * a + b)

    def test_sparse_digits(self):
        # A function that is 0 but where all digits are 1, and one that is 0 from some length on.
        ends = rule(((0,),), ((1,),), (0,), (1,))
        self.same(ends, lambda m: 0)
        tops = rule(((0, 1), (0, 1)), ((1, 0), (0, 0)), (1, 1), (1, 0))
        for length in LENGTHS:
            self.assertEqual([tops(2 ** length - 1), tops(2 ** length - 2)], [1, 0 if length > 1 else 1])
        self.same(n % 8 - n % 8, lambda m: 0)
        self.same(single(9) * n + n % 2, lambda m: 9 * (m == 9) + m % 2)


class ClosedFormTest(unittest.TestCase):
    def test_polynomials(self):
        for f, value in (
                (n ** 3 - 7 * n * n + 2, lambda m: m ** 3 - 7 * m * m + 2),
                ((n - 5) * (n + 5), lambda m: m * m - 25),
                (10 ** 100 * n - n * n * n, lambda m: 10 ** 100 * m - m ** 3),
                (n[3, 2] ** 2, lambda m: (3 * m + 2) ** 2),
                (n << 64, lambda m: m + 64),
                (n >> 64, lambda m: max(m - 64, 0)),
                (n // 7 * (n % 7), lambda m: m // 7 * (m % 7)),
                (n * n % 8, lambda m: m * m % 8)):
            for m in far_out():
                self.assertEqual(f(m), value(m))

    def test_sums(self):
        for m in far_out():
            self.assertEqual(sums(constant(1))(m), m)
            self.assertEqual(sums(n)(m), m * (m - 1) // 2)
            self.assertEqual(sums(n * n)(m), m * (m - 1) * (2 * m - 1) // 6)
            self.assertEqual(sums(n // 2)(m), (m - 1) ** 2 // 4 if m else 0)

    def test_ones(self):
        ones = rule(((1, 0), (0, 1)), ((1, 1), (0, 1)), (0, 1), (1, 0))
        below = sums(ones)
        for k in (0, 1, 2, 10, 81, 500, 996):
            self.assertEqual(ones(2 ** k - 1), k)
            self.assertEqual(ones(2 ** k), 1)
            self.assertEqual(below(2 ** k), k * 2 ** k // 2)
        for m in far_out():
            self.assertEqual(ones(m), m.bit_count())
        self.assertEqual(below << 1, below + ones)

    def test_costs(self):
        merges = costs(1, 1, n - 1, (0, 0))
        threes = costs(3, 0, 0, (0, 1))
        for k in (0, 1, 2, 10, 81, 500, 996):
            self.assertEqual(merges(2 ** k), (k - 1) * 2 ** k + 1)
            self.assertEqual(threes(2 ** k), 3 ** k)
            self.assertEqual(costs(1, 0, 1, (0, 1))(2 ** k), k + 1)

    def test_loops_from_both_ends(self):
        chance = random.Random(3)
        for many in (1, 2, 3, 6):
            rows = [tuple(tuple(chance.randint(-3, 3) for _ in range(many)) for _ in range(many)) for _ in range(2)]
            start, answer = [tuple(chance.randint(-3, 3) for _ in range(many)) for _ in range(2)]
            turned = [tuple(zip(*part)) for part in rows]
            high, low = from_high(start, *rows, answer), from_low(answer, *turned, start)
            self.assertEqual(high, low)
            for m in far_out()[::5]:
                self.assertEqual(high(m), low(m))


if __name__ == "__main__":
    unittest.main()
