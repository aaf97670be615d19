"""rule: values, ranks and least rules, and the same function told by other rules."""

import random
import unittest

from halverules.errors import NotFitting
from halverules.halved import Halved, constant, number, single
from halverules.rules import rule
from making import both, fitting_row, made_rule, mixed, reordered, with_further_line
from reference import basic_parts, check, check_values, told

n = number()
FAR_OUT = (2 ** 40, 2 ** 64 - 1, 10 ** 30 + 7, 10 ** 293, 10 ** 294 - 1)


def within(arguments):
    """Whether all numbers may stand in a rule."""
    even, odd, firsts, factors = arguments
    return all(abs(entry) <= 10 ** 12 for row in (*even, *odd, firsts, factors) for entry in row)


class ValuesTest(unittest.TestCase):
    def test_known_functions(self):
        ones = rule(((1, 0), (0, 1)), ((1, 1), (0, 1)), (0, 1), (1, 0))
        self.assertIsInstance(ones, Halved)
        check(self, ones, lambda m: m.bit_count())
        check(self, rule(((2, 0), (0, 1)), ((2, 1), (0, 1)), (0, 1), (1, 0)), lambda m: m)
        check(self, rule(((1,),), ((2,),), (1,), (5,)), lambda m: 5 << m.bit_count())
        check(self, rule(((1,),), ((-1,),), (1,), (1,)), lambda m: -1 if m.bit_count() % 2 else 1)
        check(self, rule(((7,),), ((3,),), (0,), (1,)), lambda m: 0)

    def test_small_numbers(self):
        chance = random.Random(1)
        for many in (1, 2, 3, 4):
            for _ in range(25):
                f, value = both(made_rule(chance, many))
                check(self, f, value, range(96), FAR_OUT)
                self.assertLessEqual(f.rank, many)

    def test_great_numbers(self):
        chance = random.Random(2)
        for many in (1, 2, 3, 4):
            for _ in range(5):
                arguments = made_rule(chance, many, 10 ** 12 // 8, 1)
                f, value = both(arguments)
                check(self, f, value, range(40), FAR_OUT)
        # The greatest that may stand there, of both signs.
        great = 10 ** 12
        check(self, *both((((great,),), ((-great,),), (0,), (great,))), range(16), FAR_OUT)
        check(self, *both((((1,),), ((-great,),), (great,), (-great,))), range(16), FAR_OUT)
        rows = ((1, 0), (-great, great)), ((great, -great), (great, great))
        check(self, *both((*rows, (0, 0), (great, -great))), range(16), FAR_OUT)
        check(self, *both((*rows, (0, 0), (0, 0))), range(16), FAR_OUT)
        rows = ((1, 0), (0, 1)), ((great, -great), (great, great))
        check(self, *both((*rows, (great, -great), (great, -great))), range(16), FAR_OUT)

    def test_sixteen_lines(self):
        chance = random.Random(3)
        for size, first_size in ((1, 2), (3, 3), (10 ** 11, 1)):
            f, value = both(made_rule(chance, 16, size, first_size))
            check(self, f, value, range(48), FAR_OUT[-1:])
            self.assertLessEqual(f.rank, 16)

    def test_rank_of_16(self):
        # A chain of lines: line i is 1 at 2 ** i - 1 only.
        even = tuple(tuple(int(at == 15 == to) for to in range(16)) for at in range(16))
        odd = tuple(tuple(int(to == at + 1) for to in range(16)) for at in range(16))
        firsts = (*[0] * 15, 1)
        f = rule(even, odd, firsts, (1, *[0] * 15))
        self.assertEqual(f, single(2 ** 15 - 1))
        self.assertEqual(f.rank, 16)
        self.assertEqual(rule(even, odd, firsts, (*[0] * 15, 1)), single(0))

    def test_zero(self):
        f = rule(((1, 0), (0, 1)), ((1, 1), (0, 1)), (0, 1), (0, 0))
        self.assertEqual(told(f), (0, (), (), ()))
        f = rule(((1, 1), (1, 1)), ((1, -1), (5, 4)), (0, 0), (3, 4))
        self.assertEqual(told(f), (0, (), (), ()))

    def test_by_name(self):
        f = rule(told=(1, 0), firsts=(0, 1), odd=((1, 1), (0, 1)), even=((1, 0), (0, 1)))
        self.assertEqual(f(255), 8)

    def test_arguments_stay(self):
        arguments = made_rule(random.Random(4), 4)
        copy = eval(repr(arguments))
        rule(*arguments)
        self.assertEqual(arguments, copy)


class SameFunctionTest(unittest.TestCase):
    def same(self, f, arguments):
        g = rule(*arguments)
        self.assertIs(f == g, True)
        self.assertIs(f != g, False)
        self.assertEqual(told(f), told(g))
        self.assertEqual(f(10 ** 200 + 7), g(10 ** 200 + 7))

    def test_other_rules(self):
        chance = random.Random(5)
        for many in (1, 2, 3, 4, 5, 15):
            for size in (1, 3, 9, 10 ** 10):
                arguments = made_rule(chance, many, size, 2)
                f = rule(*arguments)
                self.same(f, reordered(arguments, list(reversed(range(many)))))
                self.same(f, reordered(arguments, chance.sample(range(many), many)))
                further = with_further_line(arguments, chance)
                if within(further):
                    self.same(f, further)
                if many > 1:
                    for _ in range(3):
                        one, other = chance.sample(range(many), 2)
                        arguments = mixed(arguments, one, other, chance.choice((-2, -1, 1, 2)))
                        if within(arguments):
                            self.same(f, arguments)

    def test_one_number_in_one_row(self):
        chance = random.Random(6)
        parted = 0
        for many in (1, 2, 3, 4):
            for _ in range(20):
                even, odd, firsts, factors = made_rule(chance, many)
                f, value = both((even, odd, firsts, factors))
                at, to = chance.randrange(many), chance.randrange(many)
                row = list(odd[at])
                row[to] += chance.choice((-1, 1))
                g, other = both((even, (*odd[:at], tuple(row), *odd[at + 1:]), firsts, factors))
                same = all(value(m) == other(m) for m in range(512))
                self.assertIs(f == g, same)
                self.assertIs(f != g, not same)
                parted += not same
        self.assertGreater(parted, 40)

    def test_one_great_number(self):
        # Behind so many lines the two differ at one number only.
        for digits in ("1" * 15, "101010101010101", "100000000000000"):
            n_apart = int(digits, 2)
            path = [n_apart >> at & 1 for at in range(15)]
            even = tuple(tuple(int(to == at + 1 and path[at] == 0) for to in range(16)) for at in range(15))
            odd = tuple(tuple(int(to == at + 1 and path[at] == 1) for to in range(16)) for at in range(15))
            last = (*[0] * 15, 1), ((*[0] * 15, 0))
            f = rule((*even, last[0]), (*odd, last[1]), (*[0] * 15, 1), (1, *[0] * 15))
            self.assertEqual([m for m in range(n_apart - 300, n_apart + 300) if f(m)], [n_apart])
            self.assertFalse(f == constant(0))
            self.assertTrue(f != constant(0))
            self.assertEqual(f, single(n_apart))

    def test_ranks_are_least(self):
        chance = random.Random(7)
        for _ in range(30):
            arguments = made_rule(chance, chance.randint(1, 6), 2, 2)
            f, value = both(arguments)
            self.assertEqual(f.basis, basic_parts(value, range(96)))
            self.assertEqual(f.basis[:1], ((0, 0),)[:f.rank])
            self.assertTrue(all(one < other for one, other in zip(f.basis, f.basis[1:])))


class NotFittingTest(unittest.TestCase):
    def test_least_line(self):
        chance = random.Random(8)
        for many in (1, 2, 3, 4, 16):
            for _ in range(10):
                even, odd, firsts, factors = made_rule(chance, many)
                if not any(firsts):
                    continue
                wrong = sorted(chance.sample(range(many), chance.randint(1, many)))
                rows = list(even)
                for at in wrong:
                    to = chance.choice([to for to in range(many) if firsts[to]])
                    rows[at] = tuple(entry + (place == to) for place, entry in enumerate(rows[at]))
                with self.assertRaises(NotFitting) as held:
                    rule(tuple(rows), odd, firsts, factors)
                self.assertEqual(held.exception.index, wrong[0])

    def test_a_line_that_is_not_told(self):
        with self.assertRaises(NotFitting) as held:
            rule(((1, 0), (0, 2)), ((1, 0), (0, 1)), (1, 1), (1, 0))
        self.assertEqual(held.exception.index, 1)
        with self.assertRaises(NotFitting):
            rule(((2,),), ((1,),), (1,), (0,))

    def test_odd_rows_always_fit(self):
        check_values(self, rule(((1,),), ((9,),), (2,), (1,)), lambda m: 2 * 9 ** m.bit_count(), range(40))
        self.assertEqual(fitting_row(random.Random(1), 0, (5,), 9), (1,))


if __name__ == "__main__":
    unittest.main()
