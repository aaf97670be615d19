"""What the operators make: values, least rules, and the same function made in several ways."""

import random
import unittest

from halverules.errors import TooMany
from halverules.halved import Halved, constant, number, single
from reference import basic_parts, check, check_least, check_values, different_parts, part, told

n = number()

# Functions with what they are in plain Python.
PAIRS = [
    (constant(0), lambda m: 0),
    (constant(-3), lambda m: -3),
    (constant(10 ** 40), lambda m: 10 ** 40),
    (n, lambda m: m),
    (single(0), lambda m: int(m == 0)),
    (single(5), lambda m: int(m == 5)),
    (n * n - n, lambda m: m * m - m),
    (n % 3, lambda m: m % 3),
    (n // 3, lambda m: m // 3),
    (n >> 2, lambda m: max(m - 2, 0)),
    (n * (n % 2) - 2 * single(3), lambda m: m * (m % 2) - 2 * (m == 3)),
]


class ArithmeticTest(unittest.TestCase):
    def test_sums_differences_products(self):
        for f, value in PAIRS:
            for g, other in PAIRS:
                before = told(f), told(g)
                check_values(self, f + g, lambda m: value(m) + other(m), range(40))
                check_values(self, f - g, lambda m: value(m) - other(m), range(40))
                check_values(self, f * g, lambda m: value(m) * other(m), range(40))
                check_least(self, f + g, lambda m: value(m) + other(m))
                check_least(self, f - g, lambda m: value(m) - other(m))
                check_least(self, f * g, lambda m: value(m) * other(m))
                self.assertEqual((told(f), told(g)), before)

    def test_with_integers(self):
        for f, value in PAIRS:
            for k in (0, 1, -1, 2, -12, 10 ** 60):
                check_values(self, f + k, lambda m: value(m) + k, range(40))
                check_values(self, k + f, lambda m: k + value(m), range(40))
                check_values(self, f - k, lambda m: value(m) - k, range(40))
                check_values(self, k - f, lambda m: k - value(m), range(40))
                check_values(self, f * k, lambda m: value(m) * k, range(40))
                check_values(self, k * f, lambda m: k * value(m), range(40))
                self.assertEqual(told(f + k), told(f + constant(k)))
                self.assertEqual(told(k - f), told(constant(k) - f))
                self.assertEqual(told(k * f), told(f * constant(k)))
                check_least(self, k - f, lambda m: k - value(m))

    def test_minus(self):
        for f, value in PAIRS:
            before = told(f)
            check(self, -f, lambda m: -value(m))
            self.assertEqual(told(-f), told(0 - f))
            self.assertEqual(told(-(-f)), before)
            self.assertEqual(told(f), before)

    def test_powers(self):
        for f, value in PAIRS:
            before = told(f)
            for k in range(4):
                check(self, f ** k, lambda m: value(m) ** k)
            self.assertEqual(told(f ** 0), told(constant(1)))
            self.assertEqual(told(f ** 1), before)
            self.assertEqual(told(f ** 2), told(f * f))
            self.assertEqual(told(f ** 3), told(f * f * f))
            self.assertEqual(told(f), before)

    def test_assigned_operators_leave_the_first_object(self):
        f = g = n
        f += 1
        f *= n
        f -= 2
        self.assertEqual(f, n * n + n - 2)
        self.assertEqual(g, number())


class AskedElsewhereTest(unittest.TestCase):
    def test_shifts(self):
        for f, value in PAIRS:
            before = told(f)
            for k in (0, 1, 2, 3, 5, 8, 31, 63, 64):
                check(self, f << k, lambda m: value(m + k), range(160))
                try:
                    shifted = f >> k
                except TooMany:
                    self.assertEqual(len(basic_parts(lambda m: value(m - k) if m >= k else 0, range(160))), 17)
                    continue
                check(self, shifted, lambda m: value(m - k) if m >= k else 0, range(160))
            self.assertEqual(told(f << 0), before)
            self.assertEqual(told(f >> 0), before)
            self.assertEqual(told(f), before)

    def test_shifts_over_all_lengths(self):
        for k in range(65):
            self.assertEqual(n << k, n + k)
            check_values(self, n >> k, lambda m: max(m - k, 0), range(140))
            self.assertEqual((n >> k) << k, n)
            self.assertEqual((single(3) >> k) << k, single(3))
            self.assertEqual(single(k + 3) << k, single(3))
            self.assertEqual(single(3) >> k, single(k + 3))
            self.assertEqual(single(3) << k, constant(0) if k > 3 else single(3 - k))

    def test_shifted_constants_are_0_at_first(self):
        first = constant(0)
        for k in range(16):
            self.assertEqual(constant(7) >> k, 7 - 7 * first)
            first = first + single(k)

    def test_slowed(self):
        for f, value in PAIRS:
            before = told(f)
            for k in range(1, 9):
                try:
                    slowed = f // k
                except TooMany:
                    self.assertEqual(len(basic_parts(lambda m: value(m // k), range(160))), 17)
                    continue
                check(self, slowed, lambda m: value(m // k), range(160))
            self.assertEqual(told(f // 1), before)
            self.assertEqual(told(f), before)

    def test_thinned(self):
        for f, value in PAIRS:
            before = told(f)
            for step in range(1, 9):
                for start in (0, 1, 2, 3, 7, 8, 20, 62, 63):
                    check_values(self, f[step, start], lambda m: value(step * m + start), range(40))
                    check_least(self, f[step, start], lambda m: value(step * m + start))
            self.assertEqual(told(f[1, 0]), before)
            self.assertEqual(told(f), before)

    def test_parts_are_thinned_functions(self):
        f = n * n + single(9) - n // 3
        for depth in range(4):
            for start in range(2 ** depth):
                check(self, f[2 ** depth, start], part(f, (depth, start)), range(64), ())


class RestTest(unittest.TestCase):
    def test_rests(self):
        for f, value in PAIRS:
            before = told(f)
            for m in range(2, 13):
                try:
                    rests = f % m
                except TooMany:
                    parts = different_parts(lambda k: value(k) % m)
                    self.assertTrue(parts > 64 or len(basic_parts(lambda k: value(k) % m)) == 17)
                    continue
                check(self, rests, lambda k: value(k) % m)
            self.assertEqual(told(f), before)

    def test_less_than_nought_and_fractions_in_rules(self):
        for m in range(2, 13):
            for c in (-1, -m, -m - 1, 10 ** 50, -10 ** 50):
                self.assertEqual(constant(c) % m, constant(c % m))
        # The fractions in these least rules have bottoms that are 2, 3 and 5.
        for f in (n ** 3, n + 2 * (n % 2), 2 * n + 3 * (n % 2), n + 2 * single(1)):
            for m in (2, 3, 4, 5, 6, 8, 10):
                check(self, f % m, lambda k: f(k) % m)
        for f in (n * n * n - n, 6 * n, 12 * n * n, n * (n - 1), 2 * n + 1):
            for m in (2, 3, 4, 6, 8, 12):
                check(self, f % m, lambda k: f(k) % m)


class SameInTwoWaysTest(unittest.TestCase):
    def same(self, first, second):
        self.assertTrue(first == second)
        self.assertFalse(first != second)
        self.assertEqual(told(first), told(second))

    def test_laws(self):
        for f, _ in PAIRS:
            for g, _ in PAIRS[:8]:
                self.same(f + g, g + f)
                self.same(f * g, g * f)
                self.same(f - g, -(g - f))
                self.same((f + g) - g, f)
                self.same((f + g) * n, f * n + g * n)
                self.same((f + g) << 5, (f << 5) + (g << 5))
                self.same((f * g)[3, 2], f[3, 2] * g[3, 2])

    def test_asked_elsewhere(self):
        for f, _ in PAIRS:
            self.same((f << 3)[2, 1], f[2, 4])
            self.same(f[3, 1] << 2, f[3, 7])
            self.same(f[2, 1][3, 4], f[6, 9])
            self.same((f // 3)[3, 2], f)
            self.same(f // 2 // 2, f // 4)
            self.same((f << 7) << 9, f << 16)
            self.same((f << 20)[1, 20], f << 40)
            self.same(f[2, 0] // 2 * (1 - n % 2) + f[2, 1] // 2 * (n % 2), f)

    def test_rests(self):
        self.same(n // 2 * 2 + n % 2, n)
        self.same(n // 3 * 3 + n % 3, n)
        self.same(n % 6 % 3, n % 3)
        self.same(n * n % 4, n % 2)
        self.same((n ** 3 - n) % 6, constant(0))
        self.same((n * n + n) % 2, constant(0))
        self.same(n % 12 % 4 * (n % 2), n % 4 * (n % 2))
        self.same(n % 4, n % 2 + (n // 2) % 2 * 2)

    def test_powers_of_binomials(self):
        self.same((n + 1) ** 2, n * n + 2 * n + 1)
        self.same((n - 1) ** 3, n ** 3 - 3 * n ** 2 + 3 * n - 1)
        self.same(single(6) ** 3, single(6))
        self.same(single(6) * single(7), constant(0))
        self.same(single(7) * n, single(7) * 7)
        self.same(n - n, constant(0))


class Tree:
    """Functions that are made by chance, with the same in plain Python."""

    def __init__(self, seed):
        self.chance = random.Random(seed)

    def leaf(self):
        pick = self.chance.randrange(4)
        if pick == 0:
            c = self.chance.randint(-4, 9)
            return constant(c), lambda m: c
        if pick == 1:
            s = self.chance.randint(0, 12)
            return single(s), lambda m: int(m == s)
        return n, lambda m: m

    def grown(self, depth):
        """A function and its plain one; the function is None if it has too great a rank."""
        if depth == 0:
            return self.leaf()
        (f, value), (g, other) = self.kept(depth - 1), self.kept(self.chance.randrange(depth))
        pick, k = self.chance.randrange(9), self.chance.randint(0, 6)
        step, start = self.chance.randint(1, 8), self.chance.randint(0, 20)
        made, plain = [
            (lambda: f + g, lambda m: value(m) + other(m)),
            (lambda: f - g, lambda m: value(m) - other(m)),
            (lambda: f * g, lambda m: value(m) * other(m)),
            (lambda: f << k, lambda m: value(m + k)),
            (lambda: f >> k, lambda m: value(m - k) if m >= k else 0),
            (lambda: f // (k % 4 + 1), lambda m: value(m // (k % 4 + 1))),
            (lambda: f % (k + 2), lambda m: value(m) % (k + 2)),
            (lambda: f[step, start], lambda m: value(m * step + start)),
            (lambda: f ** (k % 3), lambda m: value(m) ** (k % 3)),
        ][pick]
        try:
            return made(), plain
        except TooMany:
            self.reason = pick, f, g, k
            return None, plain

    def kept(self, depth):
        while True:
            f, value = self.grown(depth)
            if f is not None:
                return f, value


class TreesTest(unittest.TestCase):
    def refused_rightly(self, tree, value):
        """TooMany was right, for the rank or for what the document says besides."""
        pick, f, g, k = tree.reason
        if len(basic_parts(value, range(900))) == 17:
            return True
        if pick == 2:
            return f.rank * g.rank > 64
        if pick == 6:
            return different_parts(value, range(200)) > 64
        return pick == 8 and k % 3 == 2 and f.rank ** 2 > 64

    def test_trees(self):
        made = refused = 0
        for seed in range(300):
            tree = Tree(seed)
            f, value = tree.grown(1 + seed % 4)
            if f is None:
                refused += 1
                self.assertTrue(self.refused_rightly(tree, value), seed)
                continue
            made += 1
            self.assertIsInstance(f, Halved)
            # Numbers at which singles stand may have come to be some hundreds.
            columns = range(64) if len(basic_parts(value, range(64))) == f.rank else range(900)
            check(self, f, value, columns)
        self.assertGreater(made, 250)
        self.assertGreater(refused, 0)


if __name__ == "__main__":
    unittest.main()
