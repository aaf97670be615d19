"""parting, new_numbers and relations."""

import random
import unittest
from fractions import Fraction
from math import gcd

from halverules.costs import costs
from halverules.errors import InvalidValues, NotAFunction, TooMany
from halverules.halved import constant, number, single
from halverules.relations import new_numbers, parting, relations
from halverules.rules import rule
from making import both, made_rule, mixed, reordered
from reference import Space, basic_parts, part, told

n = number()
NO_FUNCTIONS = [0, 5, True, None, "n", b"", (), (n,), [n], {}, object(), number, int]


def counted_rule(many):
    """The arguments of a rule that is 1 just at the numbers with `many` - 1 digits that are 1."""
    even = tuple(tuple(int(to == at) for to in range(many)) for at in range(many))
    odd = tuple(tuple(int(to == at + 1) for to in range(many)) for at in range(many))
    return even, odd, (*[0] * (many - 1), 1), (1, *[0] * (many - 1))


def ones_by_period(word):
    """The function that is the letter of the word, again and again, at the place that the number of ones tells."""
    many = len(word)
    even = tuple(tuple(int(to == at) for to in range(many)) for at in range(many))
    odd = tuple(tuple(int(to == (at + 1) % many) for to in range(many)) for at in range(many))
    return rule(even, odd, tuple(word), (1, *[0] * (many - 1)))


class PartingTest(unittest.TestCase):
    def parted(self, f, g, at):
        for answer in (parting(f, g), parting(g, f), parting(f=f, g=g), parting(g=f, f=g)):
            self.assertEqual((answer, type(answer)), (at, type(at)))
        self.assertIs(f == g, at is None)
        self.assertIs(g != f, at is not None)

    def test_same(self):
        for f in (constant(0), constant(4), n, n * n - n, single(2 ** 15 - 1), costs(1, 1, n, (0, 1))):
            self.parted(f, f, None)
            self.parted(f, f * 2 - f, None)
        self.parted(n, n // 2 * 2 + n % 2, None)
        self.parted((n * n) % 4, n % 2, None)

    def test_one_number(self):
        for at in (0, 1, 2, 3, 4, 7, 8, 100, 8191):
            for f in (constant(0), n, n * 3 - 7):
                self.parted(f, f + single(at), at)
                self.parted(f, f - 10 ** 300 * single(at), at)
        for at in (2 ** 14, 2 ** 14 + 1, 20000, 2 ** 15 - 2, 2 ** 15 - 1):
            self.parted(constant(0), single(at), at)
            self.parted(n, single(at), 0 if at == 0 else 1)
            self.parted(single(at), single(at - 1), at - 1)
            self.parted(single(at), 5 * single(at), at)

    def test_first_of_many(self):
        self.parted(n, n * n, 2)
        self.parted(n % 8, n, 8)
        self.parted(n % 12, n % 4, 4)
        self.parted(n // 7, n // 8, 7)
        self.parted(n >> 9, constant(0), 10)
        self.parted(n % 3 * (n % 5), n * 0, 1)

    def test_late(self):
        for many in range(2, 17):
            f = rule(*counted_rule(many))
            self.assertEqual(f.rank, many)
            self.parted(f, constant(0), 2 ** (many - 1) - 1)
            self.parted(2 * f + single(0), single(0), 2 ** (many - 1) - 1)

    def test_near_two_to_the_27(self):
        # A word of 27 letters with the periods 13 and 16 that is not all one letter: there is just one.
        groups = list(range(27))
        for period in (13, 16):
            for at in range(27 - period):
                old, new = groups[at + period], groups[at]
                groups = [new if group == old else group for group in groups]
        word = [int(group == groups[0]) for group in groups]
        self.assertEqual(set(word), {0, 1})
        f, g = [ones_by_period(word[:period]) for period in (13, 16)]
        for ones in range(28):
            m = 2 ** ones - 1
            self.assertEqual((f(m), g(m)), (word[ones % 13], word[ones % 16]))
        self.parted(f, g, 2 ** 27 - 1)
        self.parted(f * 3 - 1, g * 3 - 1, 2 ** 27 - 1)

    def test_one_number_in_one_odd_row(self):
        chance = random.Random(2)
        seen = 0
        for many in (1, 2, 3, 4, 5):
            for size in (2, 10 ** 11):
                for _ in range(8):
                    even, odd, firsts, factors = made_rule(chance, many, size, 2)
                    at, to = chance.randrange(many), chance.randrange(many)
                    row = list(odd[at])
                    row[to] += chance.choice((-1, 1))
                    f, value = both((even, odd, firsts, factors))
                    g, other = both((even, (*odd[:at], tuple(row), *odd[at + 1:]), firsts, factors))
                    first = next((m for m in range(4096) if value(m) != other(m)), None)
                    self.parted(f, g, first)
                    seen += first is not None
        self.assertGreater(seen, 50)

    def test_made_in_other_ways(self):
        chance = random.Random(3)
        for many in (2, 3, 5, 16):
            arguments = made_rule(chance, many, 2, 2)
            f = rule(*arguments)
            self.parted(f, rule(*reordered(arguments, list(reversed(range(many))))), None)
            self.parted(f, rule(*mixed(arguments, 0, 1, 2)), None)

    def test_errors(self):
        for thing in NO_FUNCTIONS:
            for other in (n, 7, None):
                with self.assertRaises(NotAFunction) as held:
                    parting(thing, other)
                self.assertIs(held.exception.value, thing)
            with self.assertRaises(NotAFunction) as held:
                parting(n, thing)
            self.assertIs(held.exception.value, thing)
            with self.assertRaises(NotAFunction) as held:
                parting(g=thing, f=n)
            self.assertIs(held.exception.value, thing)


def plain_new_numbers(values, below):
    """The new numbers of plain functions, from the values of all their basic parts."""
    parts = [part(value, place) for value in values for place in basic_parts(value)]
    space = Space()
    return tuple(m for m in range(below) if space.takes([own(m) for own in parts]))


class NewNumbersTest(unittest.TestCase):
    def compare(self, functions, below=64):
        found = new_numbers(*functions)
        self.assertIs(type(found), tuple)
        self.assertEqual({type(m) for m in found} - {int}, set())
        self.assertEqual(found, plain_new_numbers(functions, below))
        self.assertTrue(all(m // 2 in found for m in found))
        self.assertEqual(new_numbers(*reversed(functions)), found)
        return found

    def test_one_function(self):
        for f in (constant(0), constant(3), n, n + 5, n * n - n, single(0), single(1), single(22), n % 5, n // 3,
                  single(4) - 3 * single(9), n >> 3, n * n // 2 + single(7), (n % 3) * n):
            self.assertEqual(len(self.compare([f])), f.rank)

    def test_several_functions(self):
        chance = random.Random(4)
        pool = [constant(0), constant(2), n, n * n, n % 2, n % 3, n // 3, single(0), single(5), single(11), n // 2]
        pool += [rule(*made_rule(chance, chance.randint(1, 4), 2, 2)) for _ in range(6)]
        for _ in range(40):
            functions = [chance.choice(pool) for _ in range(chance.randint(1, 6))]
            found = self.compare(functions)
            self.assertEqual(new_numbers(*functions[1:], functions[0]), found)
            if len(functions) < 6:
                self.assertEqual(new_numbers(*functions, functions[0] * 3), found)

    def test_great_entries(self):
        chance = random.Random(5)
        for many in (1, 2, 4, 6):
            functions = [rule(*made_rule(chance, chance.randint(1, 4), 10 ** 11, 1)) for _ in range(many)]
            self.compare(functions, 40)
        functions = [rule(*made_rule(chance, 16, 10 ** 10, 1)) for _ in range(4)]
        self.assertEqual(new_numbers(*functions), tuple(range(64)))

    def test_deep_ones(self):
        f = single(2 ** 15 - 1)
        self.assertEqual(new_numbers(f), tuple(2 ** k - 1 for k in range(16)))
        self.assertEqual(new_numbers(f, single(2 ** 14)),
                         tuple(sorted({*[2 ** k - 1 for k in range(16)], *[2 ** k for k in range(15)]})))
        self.assertEqual(new_numbers(n), (0, 1))
        self.assertEqual(new_numbers(n % 2, n), (0, 1, 2))
        self.assertEqual(new_numbers(constant(0)), ())

    def test_parting_numbers_are_new(self):
        chance = random.Random(6)
        for _ in range(20):
            f, g = [rule(*made_rule(chance, chance.randint(1, 4), 2, 2)) for _ in range(2)]
            at = parting(f, g)
            self.assertTrue(at is None or at in new_numbers(f, g))


class RelationsTest(unittest.TestCase):
    def compare(self, functions):
        found = relations(*functions)
        self.assertIs(type(found), tuple)
        self.assertEqual(found, self.plain(functions))
        for row in found:
            self.assertIs(type(row), tuple)
            total = sum([times * f for times, f in zip(row, functions)], constant(0))
            self.assertEqual(total, constant(0))
        return found

    def plain(self, functions, columns=range(80)):
        """The relations, from the values at the first numbers, by fractions."""
        kept, rows = [], []
        for at, f in enumerate(functions):
            row = [Fraction(f(m)) for m in columns]
            factors = {at: Fraction(1)}
            for pivot, other, others in kept:
                times = row[pivot] / other[pivot]
                row = [a - times * b for a, b in zip(row, other)]
                for to, factor in others.items():
                    factors[to] = factors.get(to, 0) - times * factor
            pivot = next((place for place, worth in enumerate(row) if worth), None)
            if pivot is not None:
                kept.append((pivot, row, factors))
                continue
            bottom = 1
            for factor in factors.values():
                bottom = bottom * factor.denominator // gcd(bottom, factor.denominator)
            whole = [int(factors.get(to, 0) * bottom) for to in range(len(functions))]
            rows.append(tuple(worth // gcd(*whole) for worth in whole))
        return tuple(rows)

    def test_known_relations(self):
        self.assertEqual(self.compare([n]), ())
        self.assertEqual(self.compare([constant(0)]), ((1,),))
        self.assertEqual(self.compare([n, n]), ((-1, 1),))
        self.assertEqual(self.compare([n, n, n]), ((-1, 1, 0), (-1, 0, 1)))
        self.assertEqual(self.compare([n * 6, n * 4]), ((-2, 3),))
        self.assertEqual(self.compare([n * 4, n * -6]), ((3, 2),))
        self.assertEqual(self.compare([constant(0), n, constant(0), 2 * n]), ((1, 0, 0, 0), (0, 0, 1, 0), (0, -2, 0, 1)))
        self.assertEqual(
            self.compare([constant(2), n, n // 2 * 4 + n % 2 * 2, n * 3 - 5]), ((0, -2, 1, 0), (5, -6, 0, 2)))
        self.assertEqual(self.compare([n // 2, n, n % 2, n * n, n % 3]), ((2, -1, 1, 0, 0),))
        self.assertEqual(self.compare([n % 2, n % 3, n % 6]), ())
        self.assertEqual(self.compare([n * n, n, constant(1), (n + 1) * (n + 2)]), ((-1, -3, -2, 1),))

    def test_functions_by_rules(self):
        chance = random.Random(7)
        for size in (2, 10 ** 9):
            for _ in range(25):
                base = [rule(*made_rule(chance, chance.randint(1, 3), size, 2)) for _ in range(chance.randint(1, 3))]
                functions = list(base)
                while len(functions) < 6:
                    picks = [chance.randint(-4, 4) * f for f in base]
                    functions.insert(chance.randint(0, len(functions)), sum(picks, constant(0)))
                functions = functions[:chance.randint(1, 6)]
                if sum(f.rank for f in functions) <= 64:
                    before = [told(f) for f in functions]
                    self.compare(functions)
                    self.assertEqual([told(f) for f in functions], before)

    def test_great_factors(self):
        f, g = 10 ** 300 * n + 1, (10 ** 300 - 1) * n
        self.assertEqual(relations(f, g, f + g), ((-1, -1, 1),))
        self.assertEqual(relations(3 ** 600 * n, 2 ** 900 * n), ((-2 ** 900, 3 ** 600),))
        great = rule(*made_rule(random.Random(8), 16, 10 ** 10, 1))
        self.assertEqual(relations(great, 3 * great, great - great, 2 * great),
                         ((-3, 1, 0, 0), (0, 0, 1, 0), (-2, 0, 0, 1)))

    def test_late_differences(self):
        f, g, h = single(2 ** 15 - 1), single(2 ** 14), single(2 ** 8 - 1) + single(2 ** 8 - 2)
        self.assertEqual(relations(f, g, n), ())
        self.assertEqual(relations(f, 2 * f, g, f), ((-2, 1, 0, 0), (-1, 0, 0, 1)))
        self.assertEqual(relations(h, single(2 ** 8 - 1), single(2 ** 8 - 2)), ((-1, 1, 1),))
        self.assertEqual(relations(n, n + h, n - h), ((-2, 1, 1),))


class TogetherTest(unittest.TestCase):
    def test_numbers_of_functions(self):
        for call in (new_numbers, relations):
            for functions in ((), (n,) * 7, (None,) * 7, (5,) * 100, (single(2 ** 15 - 1),) * 7):
                with self.assertRaises(InvalidValues) as held:
                    call(*functions)
                self.assertIs(held.exception.index, None)
            call(*[n] * 6)
            call(n)

    def test_no_function(self):
        great = single(2 ** 15 - 1)
        for call in (new_numbers, relations):
            for many in range(1, 7):
                for at in range(many):
                    for thing in NO_FUNCTIONS:
                        functions = [great] * many
                        functions[at] = thing
                        for later in (great, None, thing):
                            if at + 1 < many:
                                functions[-1] = later
                            with self.assertRaises(NotAFunction) as held:
                                call(*functions)
                            self.assertIs(held.exception.value, thing)

    def test_ranks_that_add_up(self):
        great = [single(2 ** (rank - 1) - 1) for rank in range(1, 17)]
        for call in (new_numbers, relations):
            call(*[great[15]] * 4)
            call(*[great[15]] * 4, constant(0), constant(0))
            call(great[9], great[9], great[10], great[10], great[10], great[10])
            for functions in (
                    [great[15]] * 4 + [constant(1)], [great[15]] * 3 + [great[0], great[15]], [great[10]] * 6,
                    [great[15]] * 6, [great[9]] + [great[10]] * 5):
                with self.assertRaises(TooMany):
                    call(*functions)


if __name__ == "__main__":
    unittest.main()
