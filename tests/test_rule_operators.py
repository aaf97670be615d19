"""What operators make of functions by rules: values, least rules, TooMany, and the same made in several ways."""

import random
import unittest

from halverules.costs import costs
from halverules.errors import TooMany
from halverules.halved import constant, number, single
from halverules.loops import from_low
from halverules.rules import rule
from halverules.sums import sums
from making import both, made_rule
from reference import basic_parts, check, check_values, different_parts, part, told

n = number()
FAR_OUT = (2 ** 70 - 1, 10 ** 293 + 7)
COLUMNS = range(160)
# Rests may differ for numbers with many digits first.
WIDE = sorted({*range(48), *[2 ** k - 1 for k in range(16)], *random.Random(0).sample(range(2 ** 12), 40)})


def some_rules(seed, count, most=3, size=2):
    """Functions by rules with what they are in plain Python."""
    chance = random.Random(seed)
    return [both(made_rule(chance, chance.randint(1, most), size, 2)) for _ in range(count)]


class MadeTest(unittest.TestCase):
    def compare(self, make, value, columns=COLUMNS):
        """What is made is the plain function, or has a rank that is too great."""
        try:
            made = make()
        except TooMany:
            self.assertEqual(len(basic_parts(value, columns)), 17)
            return
        check(self, made, value, columns, FAR_OUT)

    def test_sums_and_differences(self):
        pairs = some_rules(1, 8)
        for f, value in pairs:
            before = told(f)
            for g, other in pairs:
                self.compare(lambda: f + g, lambda m: value(m) + other(m))
                self.compare(lambda: f - g, lambda m: value(m) - other(m))
            for k in (0, 1, -7, 10 ** 50):
                self.compare(lambda: f + k, lambda m: value(m) + k)
                self.compare(lambda: k - f, lambda m: k - value(m))
            self.assertEqual(told(f), before)

    def test_products_and_powers(self):
        pairs = some_rules(2, 8)
        for f, value in pairs:
            before = told(f)
            for g, other in pairs:
                self.compare(lambda: f * g, lambda m: value(m) * other(m))
            for k in range(4):
                if k == 3 and (f * f).rank * f.rank > 64:
                    continue
                self.compare(lambda: f ** k, lambda m: value(m) ** k)
            for k in (0, 1, -3, 10 ** 40):
                self.compare(lambda: f * k, lambda m: value(m) * k)
                self.compare(lambda: k * f, lambda m: value(m) * k)
            self.compare(lambda: -f, lambda m: -value(m))
            self.assertEqual(told(f), before)

    def test_asked_elsewhere(self):
        for f, value in some_rules(3, 6, 2):
            before = told(f)
            for k in (0, 1, 2, 7, 64):
                self.compare(lambda: f << k, lambda m: value(m + k))
                self.compare(lambda: f >> k, lambda m: value(m - k) if m >= k else 0)
            for step, start in ((2, 1), (3, 2), (4, 63), (5, 3), (6, 6), (7, 1), (8, 5)):
                self.compare(lambda: f[step, start], lambda m: value(step * m + start))
            for k in range(1, 9):
                self.compare(lambda: f // k, lambda m: value(m // k), range(400))
            self.assertEqual(told(f), before)

    def test_rests(self):
        for f, value in some_rules(4, 8):
            before = told(f)
            for modulus in range(2, 13):
                self.compare_rests(f, value, modulus)
            self.assertEqual(told(f), before)

    def compare_rests(self, f, value, modulus):
        """The rests are those of the values, or have too many parts or too great a rank."""
        try:
            rests = f % modulus
        except TooMany:
            parts = different_parts(lambda m: value(m) % modulus, WIDE)
            self.assertTrue(parts > 64 or len(basic_parts(lambda m: value(m) % modulus, WIDE)) == 17)
            return
        check(self, rests, lambda m: value(m) % modulus, WIDE, FAR_OUT)
        self.assertEqual(rests % modulus, rests)

    def test_great_entries(self):
        chance = random.Random(5)
        for many in (1, 2, 3):
            f, value = both(made_rule(chance, many, 10 ** 11, 1))
            g, other = both(made_rule(chance, 2, 10 ** 11, 1))
            self.compare(lambda: f + g, lambda m: value(m) + other(m), range(40))
            self.compare(lambda: f * g, lambda m: value(m) * other(m), range(40))
            self.compare(lambda: f * f, lambda m: value(m) ** 2, range(40))
            self.compare(lambda: f << 1, lambda m: value(m + 1), range(40))
            self.compare(lambda: f[3, 1], lambda m: value(3 * m + 1), range(40))
            self.compare(lambda: f // 3, lambda m: value(m // 3), range(40))
            for modulus in (2, 5, 12):
                self.compare_rests(f, value, modulus)

    def test_sixteen_lines(self):
        f, value = both(made_rule(random.Random(6), 16, 3, 2))
        self.assertEqual(f.rank, 16)
        check_values(self, 3 * f, lambda m: 3 * value(m), range(40), FAR_OUT)
        check_values(self, f + f, lambda m: 2 * value(m), range(40), FAR_OUT)
        check_values(self, f[2, 1], lambda m: value(2 * m + 1), range(40), FAR_OUT)
        self.assertFalse(f + f - 2 * f)
        for make in (lambda: f + 1, lambda: f << 1, lambda: f // 3, lambda: f + n, lambda: sums(f), lambda: f[3, 0]):
            with self.assertRaises(TooMany):
                make()
        for make in (lambda: f * f, lambda: f ** 2, lambda: f * n * n):
            with self.assertRaises(TooMany):
                make()


class SameTest(unittest.TestCase):
    def same(self, make, again):
        """Both make the same function, unless one of them is refused on the way."""
        try:
            f, g = make(), again()
        except TooMany:
            return 0
        self.assertTrue(f == g)
        self.assertFalse(f != g)
        self.assertFalse(f - g)
        self.assertIs(bool(f - g), False)
        self.assertEqual(told(f), told(g))
        return 1

    def test_laws(self):
        pairs = [*some_rules(7, 8, 2), *some_rules(8, 4, 1, 9), (n, None), (n % 2, None), (costs(1, 1, 1, (0, 2)), None)]
        made = 0
        for f, _ in pairs:
            for g, _ in pairs[:6]:
                made += self.same(lambda: f + g, lambda: g + f)
                made += self.same(lambda: f + g - g, lambda: f)
                made += self.same(lambda: f * g, lambda: g * f)
                made += self.same(lambda: (f + g) * (f - g), lambda: f * f - g * g)
                made += self.same(lambda: (f + g) << 3, lambda: (f << 3) + (g << 3))
                made += self.same(lambda: (f * g)[3, 1], lambda: f[3, 1] * g[3, 1])
                made += self.same(lambda: (f + g) % 5, lambda: (f % 5 + g % 5) % 5)
                made += self.same(lambda: (f * g) % 6, lambda: (f % 6) * (g % 6) % 6)
        self.assertGreater(made, 350)

    def test_elsewhere_and_back(self):
        made = 0
        for f, value in [*some_rules(9, 10, 2), *some_rules(10, 3, 2, 10 ** 6)]:
            for k in (1, 2, 3, 5, 8):
                first = sum([value(at) * single(at) for at in range(k)], constant(0))
                made += self.same(lambda: f << k >> k, lambda: f - first)
                made += self.same(lambda: f >> k << k, lambda: f)
            made += self.same(lambda: f << 2 << 3, lambda: f << 5)
            made += self.same(lambda: f[3, 1][2, 1], lambda: f[6, 4])
            made += self.same(lambda: f[2, 1][4, 3], lambda: f[8, 7])
            made += self.same(lambda: f // 2 // 3, lambda: f // 6)
            made += self.same(lambda: f // 2 // 2 // 2, lambda: f // 8)
            made += self.same(lambda: (f // 3)[3, 2], lambda: f)
            made += self.same(lambda: f % 12 % 4, lambda: f % 4)
            made += self.same(lambda: f % 6 % 6, lambda: f % 6)
            odd = n % 2
            made += self.same(lambda: f[2, 0] // 2 * (1 - odd) + f[2, 1] // 2 * odd, lambda: f)
            thirds = [f[3, at] // 3 for at in range(3)]
            picks = [(n % 3 - 1) * (n % 3 - 2) // 1, n % 3 * (2 - n % 3), n % 3 * (n % 3 - 1)]
            made += self.same(
                lambda: thirds[0] * picks[0] + 2 * (thirds[1] * picks[1]) + thirds[2] * picks[2], lambda: 2 * f)
        self.assertGreater(made, 120)

    def test_parts(self):
        for f, value in some_rules(11, 6, 4):
            for depth in range(4):
                for start in range(2 ** depth):
                    check(self, f[2 ** depth, start], part(value, (depth, start)), range(64), ())

    def test_one_function_by_several_modules(self):
        ones = rule(((1, 0), (0, 1)), ((1, 1), (0, 1)), (0, 1), (1, 0))
        self.assertEqual(ones, costs(1, 0, n % 2, (0, 1)))
        self.assertEqual(ones, from_low((0, 1), ((1, 0), (0, 1)), ((1, 1), (0, 1)), (1, 0)))
        self.assertEqual(sums(ones)[2, 0], 2 * sums(ones) + n)
        self.assertEqual(ones + ones[1, 1] - 1, ones[1, 1] + ones - 1)
        twos = rule(((1,),), ((2,),), (1,), (1,))
        self.assertEqual(sums(twos)[2, 0], 3 * sums(twos))
        self.assertEqual(twos % 2, single(0))


class TooManyTest(unittest.TestCase):
    def ranked(self, chance, rank, size=2):
        """A function by a rule with so many lines and of just this rank."""
        while True:
            f, value = both(made_rule(chance, rank, size, 2))
            if f.rank == rank:
                return f, value

    def test_sums_of_ranks(self):
        chance = random.Random(12)
        for size in (2, 10 ** 11):
            for first, second in ((8, 8), (1, 15), (12, 4), (8, 9), (16, 1), (5, 12)):
                (f, value), (g, other) = self.ranked(chance, first, size), self.ranked(chance, second, size)
                for make, plain in (
                        (lambda: f + g, lambda m: value(m) + other(m)), (lambda: g - f, lambda m: other(m) - value(m))):
                    rank = len(basic_parts(plain, range(64), 20))
                    self.assertEqual(rank, first + second)
                    if rank > 16:
                        with self.assertRaises(TooMany):
                            make()
                    else:
                        made = make()
                        self.assertEqual(made.rank, 16)
                        check_values(self, made, plain, range(40), FAR_OUT[:1])

    def test_products_of_ranks(self):
        chance = random.Random(13)
        for first, second in ((4, 4), (2, 8), (1, 16), (5, 3), (2, 9), (4, 5), (8, 8), (4, 16)):
            (f, value), (g, other) = self.ranked(chance, first), self.ranked(chance, second)
            rank = len(basic_parts(lambda m: value(m) * other(m), range(64), 20))
            if rank > 16:
                with self.assertRaises(TooMany):
                    f * g
            else:
                made = f * g
                self.assertEqual(made.rank, rank)
                check_values(self, made, lambda m: value(m) * other(m), range(40), FAR_OUT[:1])
        # The function is 0 for all n, but the product of the ranks tells in which way it may be asked for.
        nought = rule(((0, 1), (0, 1)), ((0, 0), (0, 0)), (0, 0), (1, 1))
        self.assertEqual(nought.rank, 0)
        for first in (5, 13):
            f, g = single(2 ** (first - 1) - 1), self.ranked(chance, 65 // first)[0]
            self.assertEqual(f.rank * g.rank, 65)
            with self.assertRaises(TooMany):
                f * g
            self.assertEqual(f * nought, constant(0))
        for first in (4, 8, 16):
            f, (g, value) = single(2 ** (first - 1) - 1), self.ranked(chance, 64 // first)
            self.assertEqual(f * g, value(2 ** (first - 1) - 1) * f)

    def test_rests_of_64_and_65_parts(self):
        chance = random.Random(14)
        seen = set()
        for _ in range(300):
            f, value = both(made_rule(chance, chance.randint(1, 3), 3, 3))
            modulus = chance.choice((4, 5, 7, 8, 9, 11))
            try:
                rests = f % modulus
            except TooMany:
                seen.add("refused")
                continue
            check_values(self, rests, lambda m: value(m) % modulus, range(40), FAR_OUT[:1])
            parts = different_parts(lambda m: value(m) % modulus, WIDE[:64])
            self.assertLessEqual(parts, 64)
            seen.add(parts > 20)
        self.assertEqual(seen, {"refused", True, False})


class PartingNumbersTest(unittest.TestCase):
    def test_differ_late(self):
        # One line for each digit that is 1: the two are the same while there are no twelve such digits.
        many = 13
        even = tuple(tuple(int(to == at) for to in range(many)) for at in range(many))
        odd = tuple(tuple(int(to == at + 1 or at == to == many - 1) for to in range(many)) for at in range(many))
        f = rule(even, odd, (*[0] * (many - 1), 1), (1, *[0] * (many - 1)))
        self.assertEqual([m for m in range(9000) if f(m)], [4095, 6143, 7167, 7679, 7935, 8063, 8127, 8159, 8175, 8183,
                                                           8187, 8189, 8190, 8191])
        self.assertTrue(f != constant(0))
        self.assertTrue(n + single(2) - 1 != n + single(2) - 1 + f * 0 + single(70))


if __name__ == "__main__":
    unittest.main()
