"""Functions whose lines change places or signs by the digits, with many different parts; just at the limits and above."""

import random
import unittest

from halverules.certificates import certify_rests
from halverules.errors import TooMany, TooManyStates
from halverules.halved import Halved, constant, number, single
from halverules.loops import from_high
from halverules.numbers import Numbers, where
from halverules.recurrences import solved
from halverules.rules import rule
from halverules.sums import sums
from halverules.texts import least_text, read_least
from halverules.values import all_values, at_value
from making import counted_signs, signs, turning, turning_arguments
from math import comb
from reference import basic_parts, check_least, different_parts

n = number()
GREAT = (2 ** 40 + 5, 10 ** 30, 3 ** 200, 2 ** 500 - 1, 10 ** 300)


class PlacesTest(unittest.TestCase):
    def test_turning(self):
        for lines in range(5, 17):
            for chosen in sorted({1, 2, lines // 2, lines - 1}):
                function, value = turning(lines, chosen)
                self.assertEqual([function(m) for m in (*range(100), *GREAT)], [value(m) for m in (*range(100), *GREAT)])
                self.assertEqual(function.rank, lines)
                # An even digit alone turns the lines round, so the values at the powers of 2 tell them apart.
                columns = [2 ** at + low for at in range(2 * lines) for low in (0, 1)]
                self.assertEqual(function.basis, basic_parts(value, columns))
                self.assertEqual(read_least(least_text(function)), function)
                parts = comb(lines, chosen)
                # The values are 0 and 1, so the function is its rests.
                for modulus in (2, 5, 12):
                    if parts <= 64:
                        self.assertEqual(function % modulus, function)
                    else:
                        with self.assertRaises(TooMany):
                            function % modulus
                self.check_set(function, value, parts)

    def check_set(self, function, value, parts):
        for call in (lambda: where(function, 2, 1), lambda: where(function, 7, 1), lambda: at_value(function, 1)):
            if parts > 1024:
                with self.assertRaises(TooManyStates):
                    call()
                continue
            found = call()
            self.assertEqual(found.states, parts)
            members = [m for m in range(600) if value(m)]
            self.assertEqual([m for m in range(600) if m in found], members)
            self.assertEqual([found.kth(at) for at in (0, 1, len(members) - 1)], [members[0], members[1], members[-1]])
            self.assertEqual((found.least, found.count(600), found.is_finite), (members[0], len(members), False))
            if parts <= 64:
                self.assertEqual(found.indicator(), function)
            else:
                with self.assertRaises(TooMany):
                    found.indicator()

    def test_least_rules(self):
        for lines, chosen in ((5, 2), (6, 3), (7, 2), (8, 4)):
            function, value = turning(lines, chosen)
            check_least(self, function, value, range(256))

    def test_drawn_orders(self):
        chance = random.Random(481)
        for _ in range(12):
            lines = chance.randint(5, 16)
            even = list(range(1, lines))
            chance.shuffle(even)
            even = [0, *even]
            odd = list(range(lines))
            chance.shuffle(odd)
            rows = [tuple(tuple(int(to == place) for to in range(lines)) for place in order) for order in (even, odd)]
            told = tuple(chance.choice((0, 0, 1)) for _ in range(lines))
            first = (1,) + (0,) * (lines - 1)
            function = rule(rows[0], rows[1], first, told)

            def value(m):
                digits = []
                while m:
                    digits.append(m % 2)
                    m //= 2
                places = [at for at in range(lines) if told[at]]
                for digit in digits:
                    places = [(odd if digit else even)[place] for place in places]
                return int(0 in places)

            self.assertEqual([function(m) for m in (*range(200), *GREAT)], [value(m) for m in (*range(200), *GREAT)])
            parts = different_parts(value, range(300), most=1100)
            self.assertEqual(function.rank, len(basic_parts(value, range(1024))))
            if parts <= 1024:
                self.assertEqual(len(all_values(function)), len({value(m) for m in range(2048)}))
                self.assertLessEqual(where(function, 3, 1).states, parts)
                self.assertEqual(where(function, 3, 1).count(200), sum(value(m) for m in range(200)))


class SignsTest(unittest.TestCase):
    def test_just_at_64(self):
        function, value = counted_signs(6)
        self.assertEqual(different_parts(value, range(256)), 64)
        self.assertEqual([function(m) for m in (*range(200), *GREAT)], [value(m) for m in (*range(200), *GREAT)])
        for modulus in (7, 8, 12):
            self.assertEqual(function % modulus, function)
        self.assertEqual((function * 12) % 12, constant(0))
        # There is one part more if the function is none of its own parts.
        for modulus in (7, 8, 12):
            with self.assertRaises(TooMany):
                (function // 2) % modulus
        self.assertEqual((function // 2 * 12) % 12, constant(0))
        self.assertEqual((function // 2 * 3) % 3, constant(0))
        self.assertEqual(((counted_signs(5)[0] // 2) % 12).rank, 7)

    def test_indicators_just_at_64(self):
        # The set has as many classes as the function parts, and its indicator has a greater rank than that.
        found = at_value(counted_signs(6)[0], 6)
        self.assertEqual(found.states, 64)
        with self.assertRaises(TooMany):
            found.indicator()
        found = at_value(counted_signs(6)[0] // 2, 6)
        self.assertEqual(found.states, 65)
        with self.assertRaises(TooMany):
            found.indicator()
        members = tuple(range(63))
        few = Numbers.told(*members)
        self.assertLessEqual(few.states, 64)
        self.assertEqual([few.indicator()(m) for m in range(80)], [int(m < 63) for m in range(80)])

    def test_just_at_1024(self):
        function, value = signs(10)
        found = where(function, 12, 10)
        self.assertEqual(found.states, 1024)
        self.assertEqual([m for m in range(3000) if m in found], [m for m in range(3000) if value(m) % 12 == 10])
        self.assertEqual(found.count(3000), sum(value(m) % 12 == 10 for m in range(3000)))
        for call in (lambda: where(function // 2, 12, 10), lambda: at_value(function // 2, 10)):
            with self.assertRaises(TooManyStates):
                call()
        # The parts of the rests count, not the classes of the set: here is none at all.
        with self.assertRaises(TooManyStates):
            where(function // 2, 12, 1)
        self.assertEqual(where(function, 12, 1), Numbers.told())
        self.assertEqual(where(function // 2, 2, 0), ~Numbers.told())
        self.assertEqual(len(certify_rests(function, 12)[1]), 1024)

    def test_from_high(self):
        # The same lines by a loop from the highest digit on: the variables change places.
        even, odd, first, told = turning_arguments(6, 2)
        self.assertEqual(from_high(first, even, odd, told), rule(even, odd, first, told))


class RankTest(unittest.TestCase):
    """TooMany just above rank 16, for functions of many kinds."""

    def check(self, call, rank):
        """The result has this rank, or is refused if that is above 16."""
        if rank > 16:
            with self.assertRaises(TooMany) as held:
                call()
            self.assertIs(type(held.exception), TooMany)
        else:
            found = call()
            self.assertIs(type(found), Halved)
            self.assertEqual(found.rank, rank)

    def test_spots(self):
        chance = random.Random(482)
        for at in (*range(20), 1023, 1024, 2 ** 14 - 1, 2 ** 14, 2 ** 15 - 1, 2 ** 15, 2 ** 15 + 1, 2 ** 16):
            self.check(lambda: single(at), at.bit_length() + 1)
        for _ in range(30):
            at = chance.randint(0, 2 ** 15 - 1)
            spot = single(at)
            shift = chance.randint(0, 64)
            self.check(lambda: spot >> shift, (at + shift).bit_length() + 1)
            self.check(lambda: spot << shift, (at - shift).bit_length() + 1 if at >= shift else 0)
            step, start = chance.randint(1, 8), chance.randint(0, 63)
            hit = at >= start and (at - start) % step == 0
            self.check(lambda: spot[step, start], ((at - start) // step).bit_length() + 1 if hit else 0)

    def test_spots_that_are_slowed(self):
        for at in (0, 1, 5, 100, 1000, 2000, 4000, 4095):
            for times in range(1, 9):
                def value(m):
                    return int(m // times == at)
                rank = len(basic_parts(value, range(4096), most=18)) if at < 500 else None
                if rank is not None:
                    self.check(lambda: single(at) // times, rank)

    def test_two_spots(self):
        for first, second in ((2 ** 8 - 1, 2 ** 8 - 2), (2 ** 9 - 1, 0), (2 ** 13 - 1, 2 ** 13 - 2), (2 ** 14 - 1, 2 ** 14 - 2),
                              (2 ** 10 - 1, 2 ** 10 - 1 - 2 ** 9), (3, 5)):
            def value(m):
                return (m == first) + 2 * (m == second)
            if max(first, second) < 2 ** 10:
                rank = len(basic_parts(value, range(2 ** 10), most=40))
                self.check(lambda: single(first) + single(second) * 2, rank)
        self.check(lambda: single(2 ** 15 - 1) + single(1), 16)
        self.check(lambda: single(2 ** 15 - 1) + single(0), 16)
        self.check(lambda: single(2 ** 15 - 1) + 1, 17)
        self.check(lambda: single(2 ** 14 - 1) + 1, 16)
        self.check(lambda: single(2 ** 14 - 1) + n, 17)
        self.check(lambda: single(2 ** 13 - 1) + n, 16)
        self.check(lambda: sums(single(2 ** 15 - 1)), 17)
        self.check(lambda: sums(single(2 ** 14 - 1)), 16)

    def test_polynomials(self):
        power = constant(1)
        for degree in range(1, 15):
            power = power * n
            self.assertEqual(power.rank, degree + 1)
        with_spot = single(3)
        self.check(lambda: power * n, 16)
        self.check(lambda: power * n * n, 17)
        self.check(lambda: power + with_spot, 18)
        self.check(lambda: sums(power), 16)
        self.check(lambda: sums(power * n), 17)
        self.check(lambda: (power * n) // 2, 17)
        self.check(lambda: (power * n)[7, 5], 16)

    def test_texts(self):
        """Chains of halves in texts of one to three functions: 1 at a number with so many digits alone."""
        for wide in range(1, 4):
            rows = []
            for name, other in zip("abc"[:wide], "bca"[:wide - 1] + "a" if wide > 1 else "a"):
                rows += [f"{name} = {'1 2 3 4' if name == 'a' else '0 1'}", f"{name} even = 2 {other}[0] + 1 {name}[0]",
                         f"{name} odd = 1 {other}[0] + 3 {other}[1] + 1 n" if wide < 3 else f"{name} odd = 1 {other}[0]"]
            for name, function in solved("\n".join(rows)):
                self.assertLessEqual(function.rank, 16)
                self.assertEqual(read_least(least_text(function)), function)


if __name__ == "__main__":
    unittest.main()
