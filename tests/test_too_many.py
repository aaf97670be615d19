"""TooMany: raised just where a rank would be greater than 16, and for what the document names besides."""

import unittest

from halverules.errors import TooMany
from halverules.halved import constant, number, single
from reference import basic_parts, check, different_parts

n = number()
ALL_ONES = {length: single(2 ** length - 1) for length in range(1, 16)}


class RankTest(unittest.TestCase):
    def let(self, make, value, columns=range(400)):
        """A rank of 16 is let."""
        self.assertEqual(len(basic_parts(value, columns, 20)), 16)
        made = make()
        self.assertEqual(made.rank, 16)
        check(self, made, value, columns)

    def refused(self, make, value, columns=range(400)):
        """A rank of 17 is not."""
        self.assertEqual(len(basic_parts(value, columns, 20)), 17)
        with self.assertRaises(TooMany):
            make()

    def test_sums(self):
        ends = [2 ** length - 1 for length in range(17)]
        columns = sorted({*range(20), *ends})
        self.let(lambda: ALL_ONES[14] + 1, lambda m: (m == 2 ** 14 - 1) + 1, columns)
        self.refused(lambda: ALL_ONES[15] + 1, lambda m: (m == 2 ** 15 - 1) + 1, columns)
        self.let(lambda: 1 + ALL_ONES[14], lambda m: (m == 2 ** 14 - 1) + 1, columns)
        self.refused(lambda: 1 + ALL_ONES[15], lambda m: (m == 2 ** 15 - 1) + 1, columns)

    def test_differences(self):
        ends = [2 ** length - 1 for length in range(17)]
        columns = sorted({*range(20), *ends})
        self.let(lambda: n - ALL_ONES[13], lambda m: m - (m == 2 ** 13 - 1), columns)
        self.refused(lambda: n - ALL_ONES[14], lambda m: m - (m == 2 ** 14 - 1), columns)
        self.let(lambda: 1 - ALL_ONES[14], lambda m: 1 - (m == 2 ** 14 - 1), columns)
        self.refused(lambda: 1 - ALL_ONES[15], lambda m: 1 - (m == 2 ** 15 - 1), columns)

    def test_products(self):
        f, g = (n // 5 + n % 5) * (n % 4), n + single(5)
        self.assertLessEqual(f.rank * g.rank, 64)
        self.let(lambda: f * g, lambda m: f(m) * g(m))
        f, g = (n >> 2) * (n >> 3) + n, n // 5 + (n >> 1)
        self.assertLessEqual(f.rank * g.rank, 64)
        self.refused(lambda: f * g, lambda m: f(m) * g(m))

    def test_powers(self):
        f = n % 5 + n % 2 + n % 6
        self.assertEqual(f.rank, 8)
        self.let(lambda: f ** 2, lambda m: f(m) ** 2)
        f = n * n // 2 * (n // 2) + single(1) - n // 3
        self.assertEqual(f.rank, 8)
        self.refused(lambda: f ** 2, lambda m: f(m) ** 2)
        f = ((n >> 2) + n % 3) * (n // 3)
        self.assertLessEqual((f ** 2).rank * f.rank, 64)
        self.refused(lambda: f ** 3, lambda m: f(m) ** 3)

    def test_shifts(self):
        f = n % 8 - n // 7 + n % 5
        self.assertEqual(f.rank, 15)
        self.let(lambda: f << 1, lambda m: (m + 1) % 8 - (m + 1) // 7 + (m + 1) % 5)
        f = n % 7 + n * n // 3 + n % 8 + n // 3
        self.refused(lambda: f << 31, lambda m: f(m + 31))
        self.let(lambda: n ** 3 >> 37, lambda m: (m - 37) ** 3 if m >= 37 else 0)
        self.refused(lambda: n * n + n % 2 >> 61, lambda m: (m - 61) ** 2 + (m - 61) % 2 if m >= 61 else 0)
        columns = sorted({*range(20), *[2 ** 15 >> k for k in range(17)], *[2 ** 15 - 1 >> k for k in range(17)]})
        self.let(lambda: single(2 ** 15 - 2) >> 1, lambda m: int(m == 2 ** 15 - 1), columns)
        self.refused(lambda: ALL_ONES[15] >> 1, lambda m: int(m == 2 ** 15), columns)

    def test_slowed(self):
        self.let(lambda: single(36) // 7, lambda m: int(m // 7 == 36))
        self.refused(lambda: (n >> 3) // 7, lambda m: max(m // 7 - 3, 0))
        self.let(lambda: n // 5 // 3, lambda m: m // 15)
        self.refused(lambda: n // 5 // 6, lambda m: m // 30)
        columns = sorted({*range(20), *[2 ** 16 - 1 >> k for k in range(17)]})
        self.let(lambda: ALL_ONES[14] // 2, lambda m: int(m // 2 == 2 ** 14 - 1), columns)
        self.refused(lambda: ALL_ONES[15] // 2, lambda m: int(m // 2 == 2 ** 15 - 1), columns)

    def test_thinned(self):
        def plain(m):
            half = (m // 2) ** 2
            return (m % 8 - m // 6) * half + half

        f = (n % 8 - n // 6) * (n * n // 2) + n * n // 2
        self.assertEqual(f.rank, 14)
        self.let(lambda: f[5, 55], lambda m: plain(5 * m + 55))
        f = n * n % 9 - n % 8 + n * n // 3
        self.assertEqual(f.rank, 16)
        self.refused(lambda: f[5, 7], lambda m: f(5 * m + 7))

    def test_rests(self):
        f = n >> 41
        self.let(lambda: f % 3, lambda m: f(m) % 3)
        f = n >> 33
        self.assertLessEqual(different_parts(lambda m: f(m) % 5), 64)
        self.refused(lambda: f % 5, lambda m: f(m) % 5)

    def test_operands_stay(self):
        f = ALL_ONES[15]
        with self.assertRaises(TooMany):
            f + 1
        self.assertEqual(f, single(2 ** 15 - 1))
        self.assertEqual(f + f, 2 * f)


class ProductOfRanksTest(unittest.TestCase):
    def test_products(self):
        for first in range(1, 17):
            for second in range(1, 17):
                f = single(2 ** (first - 1) - 1)
                g = single(2 ** (second - 1) - 1)
                self.assertEqual((f.rank, g.rank), (first, second))
                # The result is of a small rank in any case.
                if first * second > 64:
                    with self.assertRaises(TooMany):
                        f * g
                else:
                    self.assertEqual(f * g, f if first == second else constant(0))

    def test_just_64_and_65(self):
        self.assertEqual(single(2 ** 3 - 1) * single(2 ** 15 - 1), constant(0))
        self.assertEqual(single(2 ** 7 - 1) * single(2 ** 7 - 1), single(2 ** 7 - 1))
        with self.assertRaises(TooMany):
            single(2 ** 4 - 1) * single(2 ** 12 - 1)

    def test_with_integers_the_other_rank_is_1(self):
        f = ALL_ONES[15]
        self.assertEqual(f * 0, constant(0))
        self.assertEqual((f * -3)(2 ** 15 - 1), -3)
        self.assertEqual((10 ** 50 * f)(2 ** 15 - 1), 10 ** 50)
        self.assertEqual(f * constant(0), constant(0))

    def test_powers(self):
        for f in (single(2 ** 7 - 1), single(100)):
            self.assertEqual(f.rank, 8)
            self.assertEqual([f ** 0, f ** 1, f ** 2, f ** 3], [constant(1), f, f, f])
        for f in (single(2 ** 8 - 1), ALL_ONES[15]):
            self.assertEqual([f ** 0, f ** 1], [constant(1), f])
            for k in (2, 3):
                with self.assertRaises(TooMany):
                    f ** k

    def test_the_last_product_of_a_third_power(self):
        # The square has a rank of 9 or more, and so the product of the ranks is greater than 64.
        f = n + single(2 ** 5 - 1)
        self.assertEqual(f.rank, 8)
        self.assertEqual((f ** 2).rank, 9)
        with self.assertRaises(TooMany):
            f ** 3
        self.assertLessEqual(len(basic_parts(lambda m: f(m) ** 3)), 16)


class DifferentPartsTest(unittest.TestCase):
    def test_64_and_65(self):
        f = n % 3 + n % 5 + single(0)
        self.assertEqual(different_parts(lambda m: f(m) % 12), 64)
        check(self, f % 12, lambda m: f(m) % 12)
        self.assertEqual((f % 12).rank, 8)
        f = n % 3 + n % 5 + single(1)
        self.assertEqual(different_parts(lambda m: f(m) % 12), 65)
        self.assertLessEqual(f.rank, 16)
        with self.assertRaises(TooMany):
            f % 12

    def test_far_more(self):
        self.assertEqual(different_parts(lambda m: m % 11), 110)
        with self.assertRaises(TooMany):
            n % 11
        check(self, n % 9, lambda m: m % 9)

    def test_parts_are_different_as_rests_only(self):
        # All parts have other values, but few rests.
        f = 11 * n * n + 22 * n + 5
        self.assertEqual(f % 11, constant(5))
        f = 12 * n ** 3 + n % 2
        self.assertEqual(f % 12, n % 2)


if __name__ == "__main__":
    unittest.main()
