"""Rows: along, powers, index, and what operators make of them."""

import random
import unittest
from fractions import Fraction

from halverules.along import Row, along, index, powers
from halverules.costs import costs
from halverules.errors import InvalidNumber, NotAFunction, TooMany
from halverules.halved import Halved, constant, number, single
from halverules.numbers import Numbers
from halverules.rules import rule
from halverules.sums import sums
from making import made_rule
from reference import Space

n = number()
NO_INTEGERS = [True, False, None, "1", "", b"", (), (1,), [], {}, object(), int, n, 1 + 0j, Fraction(1)]
NO_OPERANDS = [thing for thing in NO_INTEGERS] + [Row, Numbers.told(1), single(3), [1], (1, 2)]


def rank_of(values, most=17):
    """How many shifts of a row are no combinations of one another, from its values modulo a great prime."""
    space = Space()
    columns = len(values) - most
    for at in range(most):
        if not space.takes(values[at:at + columns]):
            return at
    return most


def check_row(test, row, value, many=120):
    """The row has the values of the plain function, and its least recurrence."""
    values = [value(k) for k in range(many)]
    test.assertIs(type(row), Row)
    test.assertEqual([row(k) for k in range(60)], values[:60])
    test.assertIs(type(row(59)), int)
    rank = row.rank
    test.assertEqual(rank, rank_of(values))
    test.assertEqual((type(row.recurrence), type(row.firsts)), (tuple, tuple))
    test.assertEqual(row.firsts, tuple(values[:rank]))
    test.assertEqual(len(row.recurrence), rank)
    test.assertEqual({type(factor) for factor in row.recurrence} - {int}, set())
    for k in range(many - rank):
        test.assertEqual(sum(factor * values[k + rank - 1 - at] for at, factor in enumerate(row.recurrence)), values[k + rank])
    test.assertEqual((repr(row), bool(row)), (f"Row({rank})", rank > 0))


def made_rows():
    """Rows of many kinds with plain functions."""
    chance = random.Random(431)
    made = [(powers(base), lambda k, base=base: base ** k) for base in (-100, -3, -1, 0, 1, 2, 7, 100)]
    made += [
        (index(), lambda k: k), (along(n, 3), lambda k: 3 * 2 ** k), (along(n, 0), lambda k: 0),
        (along(constant(0), 5), lambda k: 0), (along(n % 3, 1), lambda k: 2 ** k % 3), (along(single(64), 1), lambda k: int(k == 6)),
        (along(single(0), 0), lambda k: 1), (along(single(96), 3), lambda k: int(k == 5)), (along(n * n - 7, 5), lambda k: 25 * 4 ** k - 7)]
    for _ in range(25):
        arguments = made_rule(chance, chance.randint(1, 5))
        function = rule(*arguments)
        start = chance.choice((0, 1, 2, 3, 5, 7, 100, 999999, 10 ** 6))
        made.append((along(function, start), lambda k, function=function, start=start: function(2 ** k * start)))
    return made


ROWS = made_rows()


class RowTest(unittest.TestCase):
    def test_document(self):
        merges = costs(1, 1, n - 1, (0, 0))
        row, twos = along(f=merges, start=1), powers(base=2)
        self.assertEqual(
            [row == (index() - 1) * twos + 1, row.recurrence, row.firsts, row(20), (row << 1) == row * 2 + 2 * twos - 1,
             along(merges, 3)(2)], [True, (5, -8, 4), (0, 1, 5), 19922945, True, 33])

    def test_rows(self):
        for row, value in ROWS:
            check_row(self, row, value)
            # As far as the functions themselves can be asked.
            for k in (100, 500, 970):
                self.assertEqual(row(k=k), value(k))
            following = sum(factor * row(999 - at) for at, factor in enumerate(row.recurrence))
            self.assertEqual(row(1000), following)
        self.assertEqual((powers(5).recurrence, powers(5).firsts), ((5,), (1,)))
        self.assertEqual((index().recurrence, index().firsts), ((2, -1), (0, 1)))
        self.assertEqual((powers(0).recurrence, powers(0).firsts), ((0,), (1,)))
        self.assertEqual((powers(3)(1000), index()(1000)), (3 ** 1000, 1000))

    def test_along_functions_of_each_rank(self):
        chance = random.Random(432)
        ranks = set()
        for many in range(1, 17):
            for size in (1, 10 ** 6):
                function = rule(*made_rule(chance, many, size))
                for start in (0, 1, chance.randint(2, 10 ** 6)):
                    row = along(function, start)
                    check_row(self, row, lambda k: function(2 ** k * start), 60)
                    ranks.add(row.rank)
        self.assertGreater(len(ranks), 8)

    def test_zero(self):
        for row in (along(n, 0), along(constant(0), 1), powers(3) - powers(3), index() * 0, along(single(1), 2),
                    powers(0) << 1, along(single(3), 4), along(n, 1) - powers(2), -along(n, 0)):
            self.assertEqual((row.rank, row.recurrence, row.firsts, bool(row), repr(row), row(1000)), (0, (), (), False, "Row(0)", 0))
        self.assertEqual(powers(3) - powers(3), along(n, 0))

    def test_one_place_alone(self):
        """Rows that are not 0 at one k only: the last factor is 0, and all others too."""
        for k in range(15):
            row = along(single(2 ** k), 1)
            self.assertEqual((row.rank, row.recurrence), (k + 1, (0,) * (k + 1)))
            self.assertEqual(row.firsts, (0,) * k + (1,))
            self.assertEqual([row(at) for at in (k, k + 1, 1000)], [1, 0, 0])
            self.assertEqual((row << 3).rank, max(0, k - 2))
            check_row(self, row * powers(3) + powers(0) * 5 + 1, lambda at: 3 ** k * (at == k) + 5 * (at == 0) + 1)
        # A recurrence that holds from a later k on only.
        late = powers(2) + along(single(4), 1) * 7
        self.assertEqual((late.recurrence, late.firsts), ((2, 0, 0, 0), (1, 2, 11, 8)))

    def test_operators(self):
        chance = random.Random(433)
        for _ in range(120):
            (first, one), (second, other) = chance.choice(ROWS), chance.choice(ROWS)
            times = chance.choice((0, 1, -1, 2, -7, 10 ** 30))
            shift = chance.choice((0, 1, 2, 3, 17, 63, 64))
            if first.rank + second.rank <= 14:
                check_row(self, first + second, lambda k: one(k) + other(k), 80)
                check_row(self, first - second, lambda k: one(k) - other(k), 80)
            if first.rank * second.rank <= 16:
                check_row(self, first * second, lambda k: one(k) * other(k), 80)
            check_row(self, first + times, lambda k: one(k) + times, 80)
            check_row(self, times + first, lambda k: one(k) + times, 80)
            check_row(self, first - times, lambda k: one(k) - times, 80)
            check_row(self, times - first, lambda k: times - one(k), 80)
            check_row(self, first * times, lambda k: one(k) * times, 80)
            check_row(self, times * first, lambda k: one(k) * times, 80)
            check_row(self, -first, lambda k: -one(k), 80)
            check_row(self, first << shift, lambda k: one(k + shift), 80)

    def test_rows_are_not_changed(self):
        row, other = index() * powers(2), powers(3) - 5
        before = [(each.rank, each.recurrence, each.firsts) for each in (row, other)]
        for made in (row + other, row - other, row * other, -row, row << 5, row == other, row(7), repr(row), bool(row)):
            self.assertEqual([(each.rank, each.recurrence, each.firsts) for each in (row, other)], before, made)

    def test_made_in_other_ways(self):
        twos, threes, k = powers(2), powers(3), index()
        self.assertEqual((twos + threes) * (twos - threes), twos * twos - threes * threes)
        self.assertEqual(twos * threes, powers(6))
        self.assertEqual(twos * twos, powers(4))
        self.assertEqual(powers(-1) * powers(-1), powers(1))
        self.assertEqual(powers(1), along(constant(1), 7))
        self.assertEqual((k + 1) * (k + 1) - k * k, 2 * k + 1)
        self.assertEqual(k << 5, k + 5)
        self.assertEqual(twos << 10, 1024 * twos)
        self.assertEqual(along(n * n, 3), 9 * twos * twos)
        self.assertEqual(along(sums(n), 1) * 2, powers(4) - twos)
        self.assertEqual(along(n, 6), along(n, 3) << 1)
        self.assertEqual(along(n[2, 1], 5), along(n, 5) * 2 + 1)
        chance = random.Random(434)
        for _ in range(30):
            (first, _), (second, _), (third, _) = [chance.choice(ROWS[:20]) for _ in range(3)]
            if first.rank + second.rank <= 4 and third.rank <= 3:
                self.assertEqual(first + second, second + first)
                self.assertEqual((first + second) * third, third * first + second * third)
                self.assertEqual((first + second) - second, first)
                self.assertEqual((first << 2) << 3, first << 5)

    def test_unlike(self):
        for k in range(14):
            other = index() + along(single(2 ** k), 1)
            self.assertFalse(index() == other)
            self.assertTrue(index() != other)
        self.assertTrue(powers(1) == powers(1))
        self.assertFalse(powers(1) != along(constant(1), 2))
        for row in (powers(1), powers(0), index(), along(n, 0)):
            for other in (0, 1, True, None, "Row(1)", constant(1), constant(0), n, (1,), [], Numbers.told(0), object()):
                self.assertFalse(row == other)
                self.assertTrue(row != other)
                self.assertFalse(other == row)
        self.assertEqual(len({str(powers(2)), repr(powers(3))}), 1)


class WrongTest(unittest.TestCase):
    def raised(self, wrong, call, *arguments):
        with self.assertRaises(InvalidNumber) as held:
            call(*arguments)
        self.assertIs(type(held.exception), InvalidNumber)
        self.assertIs(held.exception.number, wrong)

    def test_calls(self):
        row = powers(2)
        self.assertEqual((row(0), row(1000)), (1, 2 ** 1000))
        for wrong in (-1, 1001, 10 ** 300, -10 ** 300, *NO_INTEGERS):
            self.raised(wrong, row, wrong)
            self.raised(wrong, along(n, 0), wrong)

    def test_shifts(self):
        for row in (powers(2), along(n, 0)):
            row << 0, row << 64
            for wrong in (-1, 65, 10 ** 300, -10 ** 300):
                self.raised(wrong, lambda: row << wrong)
            for wrong in NO_OPERANDS:
                with self.assertRaises(TypeError):
                    row << wrong
            for wrong in (1, n, row, True):
                with self.assertRaises(TypeError):
                    wrong << row

    def test_operands(self):
        for row in (powers(2), along(n, 0), index()):
            for wrong in NO_OPERANDS:
                for call in (lambda: row + wrong, lambda: wrong + row, lambda: row - wrong, lambda: wrong - row,
                             lambda: row * wrong, lambda: wrong * row):
                    with self.assertRaises(TypeError):
                        call()
            for call in (lambda: row ** 2, lambda: row // 2, lambda: row % 2, lambda: row >> 1, lambda: row[1], lambda: row & row,
                         lambda: row < row, lambda: ~row, lambda: len(row), lambda: list(row), lambda: 1 in row, lambda: row / 2):
                with self.assertRaises(TypeError):
                    call()

    def test_starts_and_bases(self):
        for start in (0, 10 ** 6):
            self.assertEqual(along(n, start)(3), 8 * start)
        for wrong in (-1, 10 ** 6 + 1, 10 ** 300, *NO_INTEGERS):
            self.raised(wrong, along, n, wrong)
        for base in (-100, 100):
            self.assertEqual(powers(base)(2), 10 ** 4)
        for wrong in (-101, 101, 10 ** 300, *NO_INTEGERS):
            self.raised(wrong, powers, wrong)

    def test_no_function(self):
        for wrong in (True, None, 5, 0, "n", (), (n,), [n], {}, object(), Halved, number, powers(2)):
            for start in (1, -1, None):
                with self.assertRaises(NotAFunction) as held:
                    along(wrong, start)
                self.assertIs(held.exception.value, wrong)


class TooManyTest(unittest.TestCase):
    def sum_of(self, many):
        total = powers(2)
        for base in range(3, many + 2):
            total = total + powers(base)
        return total

    def too_many(self, call):
        with self.assertRaises(TooMany) as held:
            call()
        self.assertIs(type(held.exception), TooMany)

    def test_sums(self):
        most = self.sum_of(16)
        self.assertEqual(most.rank, 16)
        check_row(self, most, lambda k: sum(base ** k for base in range(2, 18)))
        self.too_many(lambda: most + 1)
        self.too_many(lambda: 1 - most)
        self.too_many(lambda: most - powers(50))
        self.too_many(lambda: most + most * 0 + powers(-1))
        self.assertEqual((most + most, (most - powers(5)).rank, (most + powers(17)).rank), (most * 2, 15, 16))
        self.assertEqual(self.sum_of(15) + 1 - powers(2) + powers(90), self.sum_of(15) - powers(2) + 1 + powers(90))
        self.assertEqual((most << 64)(0), most(64))

    def test_products(self):
        for first, second, fits in ((4, 4, True), (2, 8, True), (1, 16, True), (3, 6, False), (2, 9, False), (16, 16, False)):
            one = sum_bases([3 ** at for at in range(min(first, 4))]) if first <= 4 else self.sum_of(first)
            other = sum_bases([7, 11, 13, 17, 19, 23, 29, 31, 37][:second]) if second <= 9 else self.sum_of(16)
            self.assertEqual((one.rank, other.rank), (first, second))
            if fits:
                product = one * other
                self.assertEqual(product.rank, first * second)
                check_row(self, product, lambda k: one(k) * other(k))
            else:
                self.too_many(lambda: one * other)
        # A product of many lines may have a small rank.
        tens = sum_bases([2, 4, 8, 16, 32, 64])
        self.assertEqual((tens * tens).rank, 11)
        check_row(self, tens * tens, lambda k: tens(k) ** 2)
        many = sum_bases([1, 2, 4, 8, 16, 32, 64])
        self.assertEqual((many * tens).rank, 12)
        self.assertEqual((tens * tens * tens).rank, 16)
        self.too_many(lambda: tens * tens * many * many)

    def test_powers_of_index(self):
        row = powers(1)
        for at in range(15):
            self.assertEqual(row.rank, at + 1)
            row = row * index()
        self.assertEqual((row.rank, row(10)), (16, 10 ** 15))
        self.too_many(lambda: row * index())
        self.assertEqual((row * powers(3)).rank, 16)

    def test_late_differences(self):
        # Along both the row is 0 for long, so the first shifts look as if they were few.
        late = along(single(2 ** 14), 1)
        self.assertEqual((late.rank, late.recurrence), (15, (0,) * 15))
        self.assertEqual((late + 1).recurrence, (1,) + (0,) * 15)
        self.too_many(lambda: late + index())
        self.too_many(lambda: late + 1 - powers(2))
        self.assertEqual((late * index()).rank, 15)
        self.assertEqual(late * index(), late * 14)
        self.assertEqual((late * self.sum_of(16)).rank, 15)
        self.assertEqual(((late << 1) + 1).rank, 15)
        self.assertEqual((late + late) << 14, 2 * powers(0))

    def test_along_where_the_function_has_more_lines(self):
        function = single(2 ** 14 + 1)
        self.assertEqual((function.rank, along(function, 1).rank), (16, 0))
        self.assertEqual(along(function, 2 ** 14 + 1).recurrence, (0,))
        with self.assertRaises(TooMany):
            function + n * n
        self.assertEqual(along(function, 1) * along(function, 1) + along(n * n, 1), powers(4))

    def test_a_prime_divides_the_differences(self):
        # Rows that are 0 or the same modulo the prime by which the rank is looked at first.
        for prime in (1073741789, 2 ** 31 - 1):
            row = prime * powers(2) + powers(3)
            check_row(self, row, lambda k: prime * 2 ** k + 3 ** k)
            row = along(n * prime, 1)
            self.assertEqual((row.rank, row.recurrence, row.firsts), (1, (2,), (prime,)))
            total = self.sum_of(16) * prime
            self.assertEqual(total.rank, 16)
            self.too_many(lambda: total + prime)
            self.too_many(lambda: total + 1)
            most = self.sum_of(15) + prime * powers(40)
            self.assertEqual(most.rank, 16)
            self.too_many(lambda: most + prime)


def sum_bases(bases):
    total = along(n, 0)
    for base in bases:
        total = total + powers(base)
    return total


if __name__ == "__main__":
    unittest.main()
