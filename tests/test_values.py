"""all_values, at_value and bounded: which values functions have, and at which numbers."""

import random
import unittest

from halverules.along import powers
from halverules.errors import InvalidNumber, NotAFunction, TooMany, TooManyStates
from halverules.halved import Halved, constant, number, single
from halverules.loops import from_high
from halverules.numbers import Numbers, where
from halverules.rules import rule
from halverules.values import all_values, at_value, bounded
from making import made_rule, signs, turning
from reference import different_parts

n = number()
NO_INTEGERS = [True, False, None, "1", "", b"", (), (1,), [], {}, object(), int, n, 1 + 0j]
NO_FUNCTIONS = [True, None, 5, 0, "n", (), (n,), [n], {}, object(), Halved, number, powers(2), Numbers.told(1)]


def few_valued():
    """Functions of few values, with what they are in plain Python."""
    chance = random.Random(421)
    made = [
        (constant(0), lambda m: 0), (constant(-5), lambda m: -5), (constant(10 ** 319), lambda m: 10 ** 319),
        (single(0), lambda m: int(m == 0)), (single(9) * 7 - single(3), lambda m: 7 * (m == 9) - (m == 3)),
        (n - n // 3 * 3 - n % 2, lambda m: m - m // 3 * 3 - m % 2), (n % 7, lambda m: m % 7),
        (n % 5 - (n >> 1) % 3, lambda m: m % 5 - (m and m - 1) % 3), ((n // 2 - n) * 2 + n, lambda m: -(m % 2)),
        ((n // 2) % 2 * (n % 2), lambda m: m // 2 % 2 * (m % 2)),
        # 1 or -1 by the ones among the digits, times a great number.
        (from_high((1,), ((1,),), ((-1,),), (10 ** 12,)), lambda m: 10 ** 12 * (-1) ** m.bit_count())]
    for _ in range(20):
        modulus, other = chance.randint(2, 5), chance.randint(2, 4)
        a, b, c, d = [chance.randint(-4, 4) for _ in range(4)]
        at = chance.randint(0, 40)
        made.append((
            (n * a + b) % modulus * c - n % other + single(at) * d,
            lambda m, a=a, b=b, c=c, d=d, at=at, modulus=modulus, other=other:
            (a * m + b) % modulus * c - m % other + (m == at) * d))
    return made


FEW = few_valued()


class ValuesTest(unittest.TestCase):
    def test_all_values(self):
        for function, value in FEW:
            found = all_values(function)
            self.assertIs(type(found), tuple)
            self.assertEqual(found, tuple(sorted({value(m) for m in range(3000)})))
            self.assertEqual({type(worth) for worth in found}, {int})
        self.assertEqual(all_values(f=constant(0)), (0,))
        self.assertEqual(all_values(single(2 ** 15 - 1)), (0, 1))

    def test_at_value(self):
        for function, value in FEW:
            for worth in all_values(function):
                found = at_value(function, worth)
                self.assertIs(type(found), Numbers)
                members = [m for m in range(400) if value(m) == worth]
                self.assertEqual([m for m in range(400) if m in found], members)
                if worth >= 0 and worth < 2:
                    self.assertEqual(found.count(10 ** 4), sum(value(m) == worth for m in range(10 ** 4)))
                if members:
                    self.assertEqual((found.least, found.kth(0)), (members[0], members[0]))
                for great in (10 ** 300, 2 ** 200 - 1, 3 ** 100):
                    self.assertEqual(great in found, value(great) == worth)
            for other in (11, -11, 10 ** 319, -10 ** 319 - 1):
                if other not in all_values(function):
                    none = at_value(function, other)
                    self.assertEqual((bool(none), none.states, none), (False, 1, Numbers.told()))
        self.assertEqual(at_value(f=n % 3, value=1), where(n, 3, 1))
        self.assertEqual(at_value(single(77), 1), Numbers.told(77))

    def test_bounded(self):
        for function, value in FEW:
            worths = all_values(function)
            low, high = worths[0], worths[-1]
            self.assertIsNone(bounded(function, low, high))
            self.assertIsNone(bounded(function, low - 10 ** 300, high + 1))
            for a, b in ((low + 1, high), (low, high - 1), (low + 1, high - 1), (low, low), (high, high), (0, 0), (high + 1, high + 9)):
                if a <= b:
                    first = next((m for m in range(5000) if not a <= value(m) <= b), None)
                    self.assertEqual(bounded(function, a, b), first)
        self.assertEqual(bounded(f=n, low=0, high=100), 101)

    def test_bounded_at_each_number(self):
        for at in (*range(70), 100, 127, 128, 1000, 2047, 2048, 4094, 4095, 4096, 4097, 5000, 8191, 8192, 32767):
            function = single(at) if at.bit_length() < 16 else None
            self.assertEqual(bounded(function * -3, -2, 0), at)
            self.assertEqual(bounded(function * 3, 0, 2), at)
            self.assertIsNone(bounded(function * 3, 0, 3))
        chance = random.Random(422)
        for _ in range(40):
            arguments = made_rule(chance, chance.randint(1, 6))
            function = rule(*arguments)
            values = [function(m) for m in range(600)]
            for _ in range(10):
                low = chance.choice(values)
                high = max(low, chance.choice(values))
                first = next((m for m, worth in enumerate(values) if not low <= worth <= high), None)
                if first is not None:
                    self.assertEqual(bounded(function, low, high), first)

    def test_late(self):
        late = single(2 ** 13 - 1) + n % 2
        self.assertEqual(bounded(late, 0, 1), 2 ** 13 - 1)
        self.assertIsNone(bounded(late, 0, 2))


class TooManyTest(unittest.TestCase):
    def test_more_and_more_parts(self):
        for function in (n, n * n, n % 7 + n, single(3) * n + n // 8):
            for call in (lambda: all_values(function), lambda: at_value(function, 0),
                         lambda: bounded(function, -10 ** 50, 10 ** 50)):
                with self.assertRaises(TooManyStates) as held:
                    call()
                self.assertIs(type(held.exception), TooManyStates)

    def test_just_at_1024(self):
        function, value = signs(10)
        self.assertEqual(different_parts(value, range(1024), most=2000), 1024)
        self.assertEqual(all_values(function), tuple(range(-10, 11, 2)))
        for worth in range(-11, 12):
            found = at_value(function, worth)
            self.assertEqual(
                [m for m in range(3000) if m in found], [m for m in range(3000) if value(m) == worth])
        self.assertEqual(at_value(function, 10).states, 1024)
        self.assertIsNone(bounded(function, -10, 10))
        self.assertEqual(bounded(function, -8, 10), 2 ** 10 - 1)
        self.assertEqual(bounded(function, -10, 9), 0)

    def test_just_above_1024(self):
        # This function is none of its other parts: there is one more.
        function = signs(10)[0] // 2
        for call in (all_values, lambda f: at_value(f, 5), lambda f: bounded(f, -10, 10)):
            with self.assertRaises(TooManyStates):
                call(function)
        self.assertEqual(bounded(function, -8, 10), 2 * (2 ** 10 - 1))
        function = turning(14, 4)[0]
        self.assertEqual((all_values(function), at_value(function, 1).states), ((0, 1), 1001))
        for lines, chosen in ((13, 5), (15, 4), (16, 4), (16, 8)):
            with self.assertRaises(TooManyStates):
                all_values(turning(lines, chosen)[0])

    def test_bounded_looks_at_4096_numbers(self):
        # These functions have more parts than are kept.
        for at in (0, 1, 2, 63, 64, 65, 2047, 2048, 4094, 4095):
            self.assertEqual(bounded(n, 0, at) if at < 4095 else 4096, at + 1)
            self.assertEqual(bounded(-n, -at, 0) if at < 4095 else 4096, at + 1)
            self.assertEqual(bounded(n + (n - at) * 0, 0, 4094), 4095)
            great = single(at) * 10 ** 9 + n
            self.assertEqual(bounded(great, 0, 10 ** 8), at)
            self.assertEqual(bounded(n - single(at) * 10 ** 9, 0, 10 ** 8), at)
        for bound in (4095, 4096, 5000):
            with self.assertRaises(TooManyStates):
                bounded(n, 0, bound)
        for at in (4096, 4097, 8191):
            with self.assertRaises(TooManyStates):
                bounded(single(at) * 10 ** 9 + n, 0, 10 ** 8)

    def test_great_factors(self):
        # The factors of the parts grow, and are all different.
        great = rule(((1, 0), (0, 1)), ((10 ** 12, 1), (1, -10 ** 12)), (1, 1), (1, 1))
        with self.assertRaises(TooManyStates):
            all_values(great)
        self.assertEqual(bounded(great, 0, 10 ** 13), 3)


class WrongTest(unittest.TestCase):
    def raised(self, error, wrong, call, *arguments):
        with self.assertRaises(error) as held:
            call(*arguments)
        self.assertIs(type(held.exception), error)
        (worth,) = vars(held.exception).values()
        self.assertIs(worth, wrong)

    def test_no_function(self):
        for wrong in NO_FUNCTIONS:
            self.raised(NotAFunction, wrong, all_values, wrong)
            self.raised(NotAFunction, wrong, at_value, wrong, None)
            self.raised(NotAFunction, wrong, bounded, wrong, None, None)

    def test_no_integer(self):
        for wrong in NO_INTEGERS:
            # Ahead of too many parts.
            for function in (n % 2, n):
                self.raised(InvalidNumber, wrong, at_value, function, wrong)
                self.raised(InvalidNumber, wrong, bounded, function, wrong, None)
                self.raised(InvalidNumber, wrong, bounded, function, wrong, 5)
                self.raised(InvalidNumber, wrong, bounded, function, 5, wrong)
        for low in (-10 ** 300, -1, 0, 1, 10 ** 300):
            for high in (low - 1, low - 10 ** 10):
                self.raised(InvalidNumber, high, bounded, n % 2, low, high)
                self.raised(InvalidNumber, high, bounded, n, low, high)
            self.assertEqual(bounded(n % 2, low, low), {0: 1, 1: 0}.get(low, 0))

    def test_whole(self):
        with self.assertRaises(TooMany):
            at_value(signs(10)[0], 0).indicator()


if __name__ == "__main__":
    unittest.main()
