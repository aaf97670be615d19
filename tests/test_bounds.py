"""What stands beside operators, between brackets and in calls: the ends of the bounds, and what is wrong."""

import operator
import unittest
from decimal import Decimal
from fractions import Fraction

from halverules.errors import InvalidNumber, TooMany
from halverules.halved import constant, number, single
from reference import told

n = number()

# For each operator with an integer on the right: its bounds, and what it makes of a function f at m.
BOUNDED = {
    "**": (operator.pow, 0, 3, lambda f, k: lambda m: f(m) ** k),
    "<<": (operator.lshift, 0, 64, lambda f, k: lambda m: f(m + k)),
    ">>": (operator.rshift, 0, 64, lambda f, k: lambda m: f(m - k) if m >= k else 0),
    "//": (operator.floordiv, 1, 8, lambda f, k: lambda m: f(m // k)),
    "%": (operator.mod, 2, 12, lambda f, k: lambda m: f(m) % k),
}
ARITHMETIC = (operator.add, operator.sub, operator.mul)
OTHER_KINDS = [
    True, False, None, "1", "", "2 of %s"[:4], b"1", (), (1,), (1, 2), [], [1], {}, {1: 2}, {1}, frozenset(), object(),
    int, len, Fraction(1, 2), Fraction(2), Decimal(2), 2 + 0j, range(3), slice(1, 2), Ellipsis, NotImplemented,
    ValueError(1), bytearray(b"1"),
]


class BoundedTest(unittest.TestCase):
    def test_all_within(self):
        for f in (constant(0), constant(1), n % 2, single(2), n % 2 + single(1)):
            before = told(f)
            for calls, low, high, plain in BOUNDED.values():
                for k in range(low, high + 1):
                    value = plain(f, k)
                    made = calls(f, k)
                    for m in (*range(20), 63, 64, 65, 66, 67, 10 ** 200):
                        self.assertEqual(made(m), value(m))
            self.assertEqual(told(f), before)

    def test_integers_beyond(self):
        for f in (constant(0), constant(4), n, single(2 ** 15 - 1)):
            for calls, low, high, _ in BOUNDED.values():
                for k in (low - 1, low - 2, high + 1, high + 2, 100, -100, 2 ** 64, -2 ** 64, 10 ** 319, -10 ** 319):
                    with self.assertRaises(InvalidNumber) as held:
                        calls(f, k)
                    self.assertIs(held.exception.number, k)

    def test_invalid_number_comes_ahead_of_too_many(self):
        f = single(2 ** 15 - 1) - single(12345) * 0
        with self.assertRaises(TooMany):
            f ** 2
        with self.assertRaises(InvalidNumber):
            f ** 4

    def test_other_kinds(self):
        for f in (constant(0), n, single(2 ** 15 - 1)):
            for calls, _, _, _ in BOUNDED.values():
                for thing in [*OTHER_KINDS, n, constant(2)]:
                    with self.assertRaises(TypeError):
                        calls(f, thing)

    def test_functions_on_the_right_of_other_things(self):
        for calls, _, _, _ in BOUNDED.values():
            for thing in (0, 1, 2, 10 ** 30, *OTHER_KINDS):
                # A string takes anything behind its own sign of this kind; that is no operator of a function.
                if calls is operator.mod and isinstance(thing, (str, bytes, bytearray)):
                    continue
                with self.assertRaises(TypeError):
                    calls(thing, n)

    def test_power_with_a_modulus(self):
        with self.assertRaises(TypeError):
            pow(n, 2, 5)


class ArithmeticTest(unittest.TestCase):
    def test_other_kinds_on_both_sides(self):
        for f in (constant(0), constant(1), n):
            for calls in ARITHMETIC:
                for thing in OTHER_KINDS:
                    with self.assertRaises(TypeError):
                        calls(f, thing)
                    with self.assertRaises(TypeError):
                        calls(thing, f)

    def test_true_and_false_are_no_integers(self):
        for calls in (*ARITHMETIC, operator.pow, operator.lshift, operator.rshift, operator.floordiv, operator.mod):
            for thing in (True, False):
                with self.assertRaises(TypeError):
                    calls(n, thing)
                with self.assertRaises(TypeError):
                    calls(thing, n)

    def test_other_operators(self):
        for calls in (operator.truediv, operator.and_, operator.or_, operator.xor, operator.matmul, divmod,
                      operator.lt, operator.le, operator.gt, operator.ge):
            for thing in (n, 2):
                with self.assertRaises(TypeError):
                    calls(n, thing)
        for calls in (operator.pos, operator.invert, abs, len, iter, int):
            with self.assertRaises(TypeError):
                calls(n)
        for thing in (0, n):
            with self.assertRaises(TypeError):
                thing in n


class BracketsTest(unittest.TestCase):
    def test_ends(self):
        for step in (1, 8):
            for start in (0, 63):
                self.assertEqual(n[step, start], n * step + start)
                self.assertEqual(n[(step, start)](10 ** 300), step * 10 ** 300 + start)

    def test_all_within(self):
        f = n * n + single(70)
        for step in range(1, 9):
            for start in range(64):
                made = f[step, start]
                for m in (0, 1, 5, 9, 33, 70, 10 ** 9):
                    self.assertEqual(made(m), f(step * m + start))

    def test_no_pair_of_such_integers(self):
        wrong = [
            (0, 0), (9, 0), (-1, 0), (1, -1), (1, 64), (8, 64), (0, 64), (9, 63), (10 ** 319, 0), (1, -10 ** 319),
            (True, 0), (1, True), (1, False), (True, False), (False, 5), (2, True),
            (None, 0), (1, None), ("1", 0), (1, "0"), (1, (0,)), ((1,), 0), (1, [0]), (n, 0), (1, n), ((1, 0), (1, 0)),
            (), (1,), (1, 0, 0), (1, 2, 3, 4), [1, 0], [], [(1, 0)], {1: 0}, {1, 2}, "10", "", b"10",
            0, 1, 5, -1, 10 ** 319, True, False, None, Ellipsis, slice(1, 0), slice(None), (slice(1, 2), 0),
            (1, Ellipsis), object(), n, int, range(1, 3), (Fraction(1), 0),
        ]
        for f in (constant(0), n, single(2 ** 15 - 1)):
            for thing in wrong:
                with self.assertRaises(InvalidNumber) as held:
                    f[thing]
                self.assertIs(held.exception.number, thing)

    def test_nothing_can_be_set(self):
        with self.assertRaises(TypeError):
            n[1, 0] = 5
        for name in ("rank", "basis", "equations", "firsts"):
            with self.assertRaises(AttributeError):
                setattr(n, name, 5)


if __name__ == "__main__":
    unittest.main()
