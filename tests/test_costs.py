"""costs: the first values, the recursion behind them, and the functions that these are."""

import random
import unittest

from halverules.costs import costs
from halverules.errors import TooMany
from halverules.halved import Halved, constant, number, single
from halverules.sums import sums
from making import both, made_rule
from reference import basic_parts, check, told

n = number()


class PlainCosts:
    """The recursion, number by number."""

    def __init__(self, low, high, extra, values):
        self.low, self.high, self.extra = low, high, extra
        self.known = dict(enumerate(values))

    def __call__(self, m):
        # With the two numbers in question of each length, smallest first, nothing is worked out twice.
        waiting = [m]
        while waiting:
            m = waiting.pop()
            if m in self.known:
                continue
            needed = [half for half in (m // 2, (m + 1) // 2) if half not in self.known]
            if needed:
                waiting.extend([m, *needed])
            else:
                extra = self.extra(m) if callable(self.extra) else self.extra
                self.known[m] = self.low * self.known[m // 2] + self.high * self.known[(m + 1) // 2] + extra
        return self.known[m]


GREAT = (2 ** 20 - 1, 10 ** 9 + 7, 10 ** 30 - 1, 3 ** 62)


class CostsTest(unittest.TestCase):
    def compare(self, low, high, extra, values, plain=None, columns=range(128)):
        value = PlainCosts(low, high, extra if plain is None else plain, values)
        try:
            made = costs(low, high, extra, values)
        except TooMany:
            self.assertEqual(len(basic_parts(value, columns)), 17)
            return None
        self.assertIsInstance(made, Halved)
        self.assertEqual([made(at) for at in range(len(values))], list(values))
        check(self, made, value, columns, GREAT)
        return made

    def test_known_costs(self):
        merges = self.compare(1, 1, n - 1, (0, 0))
        self.assertEqual([merges(2 ** k) for k in range(6)], [0, 1, 5, 17, 49, 129])
        looks = self.compare(1, 0, 1, (0, 1))
        self.assertEqual([looks(m) for m in (1, 2, 1023, 1024)], [1, 2, 10, 11])
        self.assertEqual(self.compare(1, 1, 0, (0, 1)), n)
        self.assertEqual(self.compare(3, 0, 0, (0, 1))(8), 27)
        self.assertEqual(self.compare(1, 1, 1, (5, 5)), 6 * n - 1 + 6 * single(0))

    def test_extras(self):
        chance = random.Random(1)
        extras = [(0, None), (7, None), (-10 ** 30, None), (n, lambda m: m), (n * n - 3 * n, lambda m: m * m - 3 * m),
                  (single(9), lambda m: int(m == 9)), (n % 3, lambda m: m % 3), (n // 2, lambda m: m // 2)]
        extras += [both(made_rule(chance, 2, 2, 2)) for _ in range(4)]
        for extra, plain in extras:
            before = told(extra) if isinstance(extra, Halved) else None
            for low, high in ((1, 1), (0, 0), (2, -1), (1, 0), (0, 3), (-2, 5), (1000, 1), (-1000, 1000)):
                values = tuple(chance.randint(-9, 9) for _ in range(chance.randint(2, 8)))
                self.compare(low, high, extra, values, plain, range(100))
            self.assertEqual(told(extra) if isinstance(extra, Halved) else None, before)

    def test_first_values(self):
        chance = random.Random(2)
        for many in range(2, 9):
            for low, high in ((1, 1), (1, 2), (0, 0), (-1, 1)):
                for extra, plain in ((1, None), (n, lambda m: m)):
                    values = tuple(chance.randint(-10 ** 12, 10 ** 12) for _ in range(many))
                    self.compare(low, high, extra, values, plain)

    def test_by_name(self):
        first = costs(2, 1, n, (0, 1))
        self.assertEqual(costs(low=2, high=1, extra=n, values=(0, 1)), first)
        self.assertEqual(costs(values=(0, 1), extra=n, high=1, low=2), first)
        self.assertEqual(costs(2, 1, values=(0, 1), extra=n), first)

    def test_an_integer_is_a_function(self):
        for k in (0, 3, -5):
            self.assertEqual(costs(1, 2, k, (1, 2, 3)), costs(1, 2, constant(k), (1, 2, 3)))

    def test_more_first_values(self):
        for low, high, extra in ((1, 1, n - 1), (2, -3, 4), (0, 1, n * n), (1000, -1000, n % 2)):
            made = costs(low, high, extra, (3, -1))
            values = tuple(made(at) for at in range(8))
            for many in range(2, 9):
                again = costs(low, high, extra, values[:many])
                self.assertTrue(again == made)
                self.assertEqual(told(again), told(made))
            other = costs(low, high, extra, (*values[:5], values[5] + 1))
            self.assertTrue(other != made)

    def test_by_operators(self):
        merges = costs(1, 1, n - 1, (0, 0))
        # The steps of merge sort are a sum of the lengths of the lesser numbers.
        self.assertEqual((merges << 1) - merges, costs(1, 0, 1, (0, 1)))
        self.assertEqual(sums(costs(1, 0, 1, (0, 1))), merges)
        self.assertEqual(merges[2, 0], 2 * merges + 2 * n - 1 + single(0))
        self.assertEqual(merges[2, 1], merges + (merges << 1) + 2 * n)


class TooManyTest(unittest.TestCase):
    def let(self, rank, low, high, extra, values, plain, columns):
        value = PlainCosts(low, high, plain, values)
        self.assertEqual(len(basic_parts(value, columns, 20)), rank)
        if rank > 16:
            with self.assertRaises(TooMany):
                costs(low, high, extra, values)
        else:
            made = costs(low, high, extra, values)
            self.assertEqual(made.rank, rank)
            check(self, made, value, columns, GREAT)

    def test_16_and_17(self):
        seen = []
        for length in range(5, 16):
            at = 2 ** length - 1
            columns = sorted({*range(64), *[2 ** k - 1 for k in range(18)], *[2 ** k for k in range(17)]})
            value = PlainCosts(1, 1, lambda m: int(m == at), (0, 1))
            rank = len(basic_parts(value, columns, 20))
            seen.append(rank)
            self.let(rank, 1, 1, single(at), (0, 1), lambda m: int(m == at), columns)
        self.assertIn(16, seen)
        self.assertIn(17, seen)

    def test_the_repairs_do_not_count_by_themselves(self):
        # The extra has the rank 16, and so has the result, though more is added at first than in the extra.
        f = single(2 ** 15 - 1)
        made = costs(0, 0, f, (1, 1))
        self.assertEqual(made.rank, 16)
        self.assertEqual([m for m in (*range(2000), *range(32700, 32800)) if made(m)], [0, 1, 2 ** 15 - 1])


if __name__ == "__main__":
    unittest.main()
