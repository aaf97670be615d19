"""told_back: the function that first values tell."""

import random
import unittest

from halverules.errors import InvalidValues
from halverules.halved import Halved, constant, number, single
from halverules.learning import told_back
from halverules.rules import rule
from making import both, made_rule
from reference import check, told

n = number()
LENGTHS = {1: 4, 2: 16, 3: 64, 4: 256}


def first_values(f, rank):
    return tuple(f(m) for m in range(LENGTHS[rank]))


class ToldBackTest(unittest.TestCase):
    def back(self, f, rank):
        """The function comes back from its first values, and from four times as many."""
        for more in range(rank, min(rank + 1, 4) + 1):
            made = told_back(first_values(f, more))
            self.assertIsInstance(made, Halved)
            self.assertEqual(made, f)
            self.assertEqual(told(made), told(f))
            self.assertLessEqual(made.rank, rank)

    def test_known_functions(self):
        self.back(constant(0), 1)
        self.back(constant(5), 1)
        self.back(single(0), 1)
        self.back(n, 2)
        self.back(n % 2, 2)
        self.back(single(1), 2)
        self.back(single(3), 3)
        self.back(n * n, 3)
        self.back(n // 2, 3)
        self.back(n ** 3, 4)
        self.back(single(7), 4)
        self.back(rule(((1,),), ((-3,),), (2,), (1,)), 1)
        self.back(10 ** 300 * n - 10 ** 299, 2)

    def test_functions_by_rules(self):
        chance = random.Random(1)
        for rank in (1, 2, 3, 4):
            for size in (1, 2, 5, 10 ** 10):
                for _ in range(6):
                    self.back(rule(*made_rule(chance, rank, size, 2)), rank)

    def test_of_greater_rank(self):
        chance = random.Random(2)
        seen = 0
        for rank in (1, 2, 3, 4):
            for many in range(rank + 1, 7):
                for _ in range(5):
                    f = rule(*made_rule(chance, many, 2, 2))
                    made = told_back(first_values(f, rank))
                    if f.rank > rank:
                        seen += 1
                        if made is not None:
                            self.assertLessEqual(made.rank, rank)
                            self.assertEqual(first_values(made, rank), first_values(f, rank))
                            self.assertFalse(made == f)
                    else:
                        self.assertEqual(made, f)
        self.assertGreater(seen, 50)
        for values in (first_values(n, 1), first_values(n * n, 2), first_values(n ** 3, 3), first_values(n ** 3 + n // 2, 4),
                       first_values(single(1), 1), first_values(single(2), 2), first_values(single(100), 4)):
            self.assertIsNone(told_back(values))

    def test_changed_values(self):
        chance = random.Random(3)
        for rank in (1, 2, 3, 4):
            for _ in range(20):
                f, value = both(made_rule(chance, rank, 2, 2))
                values = list(first_values(f, rank))
                for _ in range(chance.randint(1, 2)):
                    values[chance.randrange(len(values))] += chance.choice((-1, 1, 10 ** 20))
                made = told_back(tuple(values))
                if made is not None:
                    self.assertLessEqual(made.rank, rank)
                    self.assertEqual(list(first_values(made, rank)), values)
                    check(self, made, made, range(40), ())
        # Just one number changed, everywhere in the values of a constant.
        for rank in (2, 3, 4):
            for at in range(LENGTHS[rank]):
                values = tuple(int(m == at) + 1 for m in range(LENGTHS[rank]))
                made = told_back(values)
                if at.bit_length() + 2 <= rank:
                    self.assertEqual(made, single(at) + 1)
                else:
                    self.assertTrue(made is None or first_values(made, rank) == values)

    def test_zeros(self):
        for rank in LENGTHS:
            made = told_back((0,) * LENGTHS[rank])
            self.assertEqual(told(made), (0, (), (), ()))
            for at in range(LENGTHS[rank]):
                values = tuple(int(m == at) for m in range(LENGTHS[rank]))
                made = told_back(values)
                if at.bit_length() + 1 <= rank:
                    self.assertEqual(made, single(at))
                else:
                    self.assertIsNone(made)

    def test_broken_further_on(self):
        for rank, length in LENGTHS.items():
            digits = 2 * rank
            for top, bottom in ((1, 2), (3, 2), (-2, 3), (1, 3)):
                # With so many digits 1 all values are integers, but with one more no longer.
                values = tuple(bottom ** (digits - m.bit_count()) * top ** m.bit_count() for m in range(length))
                self.assertIsNone(told_back(values))
                self.assertIsNone(told_back(tuple(7 * worth for worth in values)))
                if rank < 4:
                    more = tuple(bottom ** (digits + 2 - m.bit_count()) * top ** m.bit_count() for m in range(4 * length))
                    self.assertIsNone(told_back(more))
            values = tuple(2 ** m.bit_count() for m in range(length))
            self.assertEqual(told_back(values), rule(((1,),), ((2,),), (1,), (1,)))
        # A rule whose values are integers again and again, but not all of them.
        values = tuple(2 ** (8 - m.bit_count()) + m for m in range(256))
        self.assertIsNone(told_back(values))
        self.assertIsNone(told_back(tuple(m * (m - 1) // 2 + 2 ** 8 // 2 ** m.bit_count() for m in range(256))))

    def test_rules_with_fractions_but_integer_values(self):
        for f, rank in ((n * (n - 1) * (n - 2), 4), ((n ** 3 - n) // 1, 4), (2 * n + 3 * (n % 2), 3), (5 * n + single(0), 3)):
            self.assertEqual(f.rank, min(f.rank, rank))
            self.back(f, rank)
        # The bottoms of these equations are 2 and 5.
        bottoms = {bottom for f in (n ** 3, 2 * n + 3 * (n % 2)) for halves in f.equations for row in halves
                   for _, bottom in row}
        self.assertEqual(bottoms, {1, 2, 5})

    def test_the_least_rule_of_what_is_told_back(self):
        chance = random.Random(4)
        for rank in (1, 2, 3, 4):
            f, value = both(made_rule(chance, rank, 2, 2))
            check(self, told_back(first_values(f, rank)), value, range(64))

    def test_all_of_four_values(self):
        chance = random.Random(5)
        for _ in range(200):
            a, b, c, d = [chance.randint(-3, 3) for _ in range(4)]
            made = told_back((a, b, c, d))
            if a == 0:
                self.assertEqual(made is not None, b == c == d == 0)
            elif c == b and d * a == b * b and b % a == 0:
                self.assertEqual([made(m) for m in (0, 1, 2, 3, 7)], [a, b, c, d, a * (b // a) ** 3])
            else:
                self.assertIsNone(made)

    def test_by_name_and_argument(self):
        values = first_values(n, 2)
        self.assertEqual(told_back(values=values), n)
        self.assertEqual(values, tuple(range(16)))


class WrongValuesTest(unittest.TestCase):
    def raised(self, index, values):
        with self.assertRaises(InvalidValues) as held:
            told_back(values)
        self.assertEqual((held.exception.index, type(held.exception.index)), (index, type(index)))

    def test_elements(self):
        chance = random.Random(6)
        things = [None, True, False, "1", "", b"", (), (1,), [1], {}, object(), int, n, 1 + 0j]
        for length in LENGTHS.values():
            for at in {0, 1, 2, 3, length - 1, length // 2, *[chance.randrange(length) for _ in range(10)]}:
                for thing in things:
                    values = [1] * length
                    values[at] = thing
                    self.raised(at, tuple(values))
                    values[chance.randrange(at, length)] = thing
                    self.raised(at, tuple(values))

    def test_lengths_and_kinds(self):
        for length in (0, 1, 2, 3, 5, 8, 15, 17, 63, 65, 255, 257, 1024):
            self.raised(None, (1,) * length)
            self.raised(None, (None,) * length)
        for thing in ([1] * 4, [0] * 16, None, True, 4, "1111", b"1111", {0: 1, 1: 1, 2: 1, 3: 1}, {1, 2, 3, 4}, range(4), n,
                      object(), int):
            self.raised(None, thing)

    def test_great_values(self):
        for worth in (10 ** 319, -10 ** 319):
            self.assertEqual(told_back((worth,) * 4), constant(worth))
            self.assertEqual(told_back((worth,) * 256), constant(worth))
            self.assertEqual(told_back((0, worth) * 8), worth * (n % 2))
            self.assertIsNone(told_back((0, 1, worth, 3)))
            self.assertIsNone(told_back((1, worth, worth, 3)))
            self.assertEqual(told_back((1, worth, worth, worth ** 2))(7), worth ** 3)


if __name__ == "__main__":
    unittest.main()
