"""constant, number and single: values, least rules, limits and wrong arguments."""

import unittest

from halverules.errors import InvalidNumber, TooMany
from halverules.halved import Halved, constant, number, single
from reference import GREAT, check, told

NO_INTEGERS = [None, True, False, "", "5", b"5", (), (5,), [], [5], {}, {5}, object(), int, len, 3 + 0j, number()]


class ConstantTest(unittest.TestCase):
    def test_values_and_rule(self):
        for c in (0, 1, -1, 5, -7, 10 ** 100, -10 ** 300, 10 ** 319 + 7):
            f = constant(c)
            self.assertIsInstance(f, Halved)
            check(self, f, lambda n: c)
            if c:
                self.assertEqual(told(f), (1, ((0, 0),), ((((1, 1),), ((1, 1),)),), (c,)))
            else:
                self.assertEqual(told(f), (0, (), (), ()))

    def test_by_name(self):
        self.assertEqual(constant(c=4)(9), 4)

    def test_no_integer(self):
        for c in NO_INTEGERS:
            with self.assertRaises(InvalidNumber) as held:
                constant(c)
            self.assertIs(held.exception.number, c)


class NumberTest(unittest.TestCase):
    def test_values_and_rule(self):
        n = number()
        self.assertIsInstance(n, Halved)
        check(self, n, lambda m: m)
        self.assertEqual(n.rank, 2)
        self.assertEqual(n.basis, ((0, 0), (1, 1)))
        self.assertEqual(n.firsts, (0, 1))
        self.assertEqual(
            n.equations,
            ((((2, 1), (0, 1)), ((0, 1), (1, 1))), (((2, 1), (1, 1)), ((-2, 1), (3, 1)))))

    def test_same_each_time(self):
        self.assertEqual(number(), number())


class SingleTest(unittest.TestCase):
    def check_single(self, n):
        f = single(n)
        near = [m for m in range(n - 5, n + 6) if m >= 0]
        doubles = [2 * n, 2 * n + 1, 4 * n, n // 2, n // 4]
        # The values at n, n // 2, .. are those that tell its parts from one another.
        columns = sorted({*range(20), *near, *doubles, *[n >> k for k in range(20)]})
        check(self, f, lambda m: int(m == n), columns)
        self.assertEqual(f.rank, n.bit_length() + 1)
        self.assertEqual(f(n), 1)

    def test_small(self):
        for n in range(40):
            self.check_single(n)

    def test_each_length(self):
        for length in range(1, 16):
            for n in {2 ** (length - 1), 2 ** length - 1, 2 ** length * 2 // 3}:
                self.check_single(n)

    def test_rule_of_the_first_ones(self):
        one, nought = ((1, 1),), ((0, 1),)
        self.assertEqual(told(single(0)), (1, ((0, 0),), ((one, nought),), (1,)))
        self.assertEqual(single(1).basis, ((0, 0), (1, 1)))
        self.assertEqual(single(1).firsts, (0, 1))
        self.assertEqual(single(2).basis, ((0, 0), (1, 0), (2, 2)))
        self.assertEqual(
            single(2).equations,
            ((((0, 1), (1, 1), (0, 1)), ((0, 1),) * 3),
             (((0, 1),) * 3, ((0, 1), (0, 1), (1, 1))),
             (((0, 1), (0, 1), (1, 1)), ((0, 1),) * 3)))

    def test_too_many(self):
        self.assertEqual(single(2 ** 15 - 1).rank, 16)
        for n in (2 ** 15, 2 ** 15 + 1, 2 ** 16 - 1, 2 ** 16, 10 ** 9, 10 ** 300 - 1, 10 ** 300):
            with self.assertRaises(TooMany):
                single(n)

    def test_by_name(self):
        self.assertEqual(single(n=3)(3), 1)

    def test_no_number(self):
        for n in [*NO_INTEGERS, -1, -2 ** 15, -10 ** 300, 10 ** 300 + 1, 10 ** 319]:
            with self.assertRaises(InvalidNumber) as held:
                single(n)
            self.assertIs(held.exception.number, n)


class CallTest(unittest.TestCase):
    def test_ends(self):
        n = number()
        self.assertEqual([n(0), n(1), n(10 ** 300), n(n=7)], [0, 1, 10 ** 300, 7])
        for great in GREAT:
            self.assertEqual((n * n + 3)(great), great * great + 3)

    def test_no_number(self):
        for f in (constant(0), number(), single(3)):
            for n in [*NO_INTEGERS, -1, -10 ** 300, 10 ** 300 + 1, 10 ** 319]:
                with self.assertRaises(InvalidNumber) as held:
                    f(n)
                self.assertIs(held.exception.number, n)
                with self.assertRaises(InvalidNumber) as held:
                    f(n=n)
                self.assertIs(held.exception.number, n)


if __name__ == "__main__":
    unittest.main()
