"""Loops over binary digits, from the high end and from the low end."""

import random
import unittest

from halverules.halved import Halved, constant, number, single
from halverules.loops import from_high, from_low
from halverules.rules import rule
from making import dot
from reference import check, told

n = number()
FAR_OUT = (2 ** 64, 10 ** 200 + 3, 10 ** 300)


def plain_loop(start, zero, one, answer, is_low):
    """The loop itself, digit by digit."""

    def work(m):
        values = list(start)
        digits = bin(m)[2:] if m else ""
        for digit in reversed(digits) if is_low else digits:
            rows = one if digit == "1" else zero
            values = [dot(row, values) for row in rows]
        return dot(answer, values)

    return work


def made_loop(chance, many, size):
    rows = [tuple(tuple(chance.randint(-size, size) for _ in range(many)) for _ in range(many)) for _ in range(2)]
    values = [tuple(chance.randint(-size, size) for _ in range(many)) for _ in range(2)]
    return values[0], rows[0], rows[1], values[1]


class LoopsTest(unittest.TestCase):
    def compare(self, arguments, columns=range(100), far_out=FAR_OUT):
        for call, is_low in ((from_high, False), (from_low, True)):
            made = call(*arguments)
            self.assertIsInstance(made, Halved)
            check(self, made, plain_loop(*arguments, is_low), columns, far_out)
            self.assertLessEqual(made.rank, len(arguments[0]) + 1)
            # No digit is taken at 0.
            self.assertEqual(made(0), dot(arguments[0], arguments[3]))

    def test_small_numbers(self):
        chance = random.Random(1)
        for many in range(1, 7):
            for size in (1, 2, 5):
                for _ in range(2):
                    self.compare(made_loop(chance, many, size), range(64))

    def test_numbers_up_to_the_greatest(self):
        chance = random.Random(2)
        for many in range(1, 7):
            self.compare(made_loop(chance, many, 10 ** 12), range(40), (10 ** 30, 10 ** 100 - 1))
        great = 10 ** 12
        self.compare(((great,), ((-great,),), ((great,),), (-great,)), range(20), (10 ** 30,))

    def test_the_rank_is_one_more_than_the_variables(self):
        for call in (from_high, from_low):
            # Doubled for each digit, also a leading one, but at 0 there is none.
            made = call((1,), ((3,),), ((2,),), (1,))
            self.assertEqual(made.rank, 2)
            self.assertEqual([made(m) for m in range(6)], [1, 2, 6, 4, 18, 12])
        chance = random.Random(3)
        ranks = set()
        for _ in range(10):
            for call in (from_high, from_low):
                ranks.add(call(*made_loop(chance, 6, 5)).rank)
        self.assertEqual(max(ranks), 7)

    def test_all_at_the_same_time(self):
        swap = ((0, 1), (1, 0))
        for call in (from_high, from_low):
            f = call((5, 7), swap, swap, (1, 0))
            self.assertEqual([f(m) for m in (0, 1, 2, 3, 4, 7, 8)], [5, 7, 5, 5, 7, 7, 5])
        pairs = from_high((0, 1), ((1, 1), (1, 0)), ((1, 0), (1, 1)), (1, 0))
        check(self, pairs, plain_loop((0, 1), ((1, 1), (1, 0)), ((1, 0), (1, 1)), (1, 0), False))

    def test_known_functions(self):
        self.assertEqual(from_high((0, 1), ((2, 0), (0, 1)), ((2, 1), (0, 1)), (1, 0)), n)
        self.assertEqual(from_low((0, 1), ((1, 0), (0, 2)), ((1, 1), (0, 2)), (1, 0)), n)
        for call in (from_high, from_low):
            self.assertEqual(call((4,), ((1,),), ((1,),), (2,)), constant(8))
            self.assertEqual(call((4,), ((0,),), ((0,),), (2,)), 8 * single(0))
            self.assertEqual(call((0,), ((3,),), ((2,),), (2,)), constant(0))
            self.assertEqual(call((1,), ((3,),), ((2,),), (0,)), constant(0))
            ones = call((0, 1), ((1, 0), (0, 1)), ((1, 1), (0, 1)), (1, 0))
            self.assertEqual(ones, rule(((1, 0), (0, 1)), ((1, 1), (0, 1)), (0, 1), (1, 0)))
        turned = from_low((0, 1), ((2, 0), (0, 1)), ((2, 1), (0, 1)), (1, 0))
        for m in range(200):
            self.assertEqual(turned(m), int(bin(m)[:1:-1], 2))

    def test_from_both_ends(self):
        # The digits the other way round, with rows and columns exchanged, and start and answer too.
        chance = random.Random(4)
        for many in range(1, 7):
            start, zero, one, answer = made_loop(chance, many, 4)
            high = from_high(start, zero, one, answer)
            low = from_low(answer, tuple(zip(*zero)), tuple(zip(*one)), start)
            self.assertTrue(high == low)
            self.assertEqual(told(high), told(low))

    def test_by_name(self):
        for call in (from_high, from_low):
            arguments = made_loop(random.Random(5), 2, 3)
            start, zero, one, answer = arguments
            self.assertEqual(call(answer=answer, one=one, zero=zero, start=start), call(*arguments))


if __name__ == "__main__":
    unittest.main()
