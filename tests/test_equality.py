"""When functions are equal, their truth and their texts."""

import unittest

from halverules.halved import Halved, constant, number, single
from reference import check, told

n = number()


class EqualityTest(unittest.TestCase):
    def parted(self, first, second):
        """They differ, and both signs tell so, either way round."""
        self.assertIs(first == second, False)
        self.assertIs(second == first, False)
        self.assertIs(first != second, True)
        self.assertIs(second != first, True)

    def same(self, first, second):
        self.assertIs(first == second, True)
        self.assertIs(second == first, True)
        self.assertIs(first != second, False)
        self.assertIs(second != first, False)
        self.assertEqual(told(first), told(second))

    def test_same(self):
        for f in (constant(0), constant(7), n, single(9), n * n // 2, n % 5):
            self.same(f, f)
            self.same(f, f + 0)
            self.same(f, f * 1)
            self.same(f, -(0 - f))
            self.same(f - f, constant(0))
            self.same((f << 4) >> 4, f - sum([single(k) * f(k) for k in range(4)], constant(0)))

    def test_differ_at_one_number_only(self):
        for at in (0, 1, 2, 3, 100, 8191):
            for f in (constant(0), constant(1), n, n * 3 - 1):
                self.parted(f, f + single(at))
                self.parted(f, f - 10 ** 50 * single(at))
        for at in (2 ** 14, 20000, 2 ** 15 - 1):
            self.parted(constant(0), single(at))
            self.parted(single(at), 2 * single(at))
            self.parted(single(at), single(at - 1))
        late = n % 2 + single(2 ** 12 + 1)
        self.parted(late, n % 2)
        self.parted(late, n % 2 + single(2 ** 12 + 3))
        self.assertEqual([m for m in range(5000) if late(m) != m % 2], [4097])

    def test_differ_from_some_number_on(self):
        self.parted(n, n >> 1 << 1 >> 1)
        self.parted(n >> 64, n - 64)
        self.same(n >> 64 << 64, n)
        self.parted(n, n % 12)
        self.parted(n * n, n * n * n)
        self.parted(constant(5), constant(6))
        self.parted(n // 8, n // 7)

    def test_what_is_no_function(self):
        for f, alike in ((constant(0), 0), (constant(1), 1), (constant(5), 5), (n, "Halved(2)")):
            for thing in (alike, True, False, None, 0, 1, 10 ** 300, "", (), [], {}, object(), told(f), f.rank, Halved,
                          str(f), repr(f)):
                self.parted(f, thing)


class TruthTest(unittest.TestCase):
    def test_truth(self):
        for f in (constant(0), n - n, single(3) * single(4), n * 0, single(2) << 3, (n * n + n) % 2):
            self.assertIs(bool(f), False)
            self.assertEqual(f.rank, 0)
        for f in (constant(1), constant(-1), n, single(0), single(2 ** 15 - 1), n - 5, single(3) << 3):
            self.assertIs(bool(f), True)


class TextsTest(unittest.TestCase):
    def test_texts(self):
        for f, rank in ((constant(0), 0), (constant(-9), 1), (n, 2), (n * n, 3), (single(2 ** 15 - 1), 16)):
            self.assertEqual(str(f), f"halved {rank}")
            self.assertEqual(repr(f), f"Halved({rank})")
            self.assertEqual(f"{f}", f"halved {rank}")


class PropertiesTest(unittest.TestCase):
    def test_kinds(self):
        for f in (constant(0), constant(3), n, n * n % 7, single(77)):
            self.assertIs(type(f.rank), int)
            for row in (f.basis, f.equations, f.firsts):
                self.assertIs(type(row), tuple)
                self.assertEqual(len(row), f.rank)
            for place in f.basis:
                self.assertIs(type(place), tuple)
                self.assertEqual(len(place), 2)
            self.assertEqual({type(worth) for place in f.basis for worth in place} - {int}, set())
            self.assertEqual({type(first) for first in f.firsts} - {int}, set())

    def test_fractions_in_lowest_terms(self):
        f = 2 * n + 3 * (n % 2)
        check(self, f, lambda m: 2 * m + 3 * (m % 2))
        pairs = {pair for halves in f.equations for row in halves for pair in row}
        self.assertEqual({bottom for _, bottom in pairs}, {1, 5})
        f = n ** 3
        check(self, f, lambda m: m ** 3)
        pairs = {pair for halves in f.equations for row in halves for pair in row}
        self.assertEqual({bottom for _, bottom in pairs}, {1, 2})
        self.assertIn((-5, 2), pairs)
        self.assertEqual(f.equations[0], (((8, 1), (0, 1), (0, 1), (0, 1)), ((0, 1), (1, 1), (0, 1), (0, 1))))


if __name__ == "__main__":
    unittest.main()
