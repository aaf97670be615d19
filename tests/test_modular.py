"""Functions whose numbers are multiples of the prime by which a first look at ranks is taken."""

import random
import unittest

from halverules.errors import TooMany
from halverules.fewest import fewest_lines
from halverules.halved import constant, number, single
from halverules.lines import Lines
from halverules.modular import PRIME, rank_bound
from halverules.relations import new_numbers, parting, relations
from halverules.rules import rule
from making import PlainRule
from reference import check
from test_relations import plain_new_numbers

n = number()


def made_rule(chance, many):
    """The arguments of a rule that fits, of small numbers and multiples of the prime."""
    pick = (0, 0, 1, -1, PRIME, -PRIME, 2 * PRIME, PRIME + 1)
    firsts = tuple(chance.choice((0, 1, PRIME)) for _ in range(many))
    even = []
    for at in range(many):
        row = [int(to == at) for to in range(many)]
        for to in range(many):
            if not firsts[to]:
                row[to] += chance.choice(pick)
        even.append(tuple(row))
    odd = tuple(tuple(chance.choice(pick) for _ in range(many)) for _ in range(many))
    return tuple(even), odd, firsts, tuple(chance.choice(pick) for _ in range(many))


class PrimeTest(unittest.TestCase):
    def test_it_is_a_prime(self):
        self.assertTrue(all(PRIME % divisor for divisor in range(2, 32769)))
        self.assertLess(PRIME, 32769 ** 2)

    def test_bounds(self):
        lines = Lines([{0: 2}, {1: 1}], [{0: 2, 1: 1}, {1: 1}], [0, 1])
        self.assertEqual(rank_bound(lines, {0: 1}), 2)
        self.assertEqual(rank_bound(lines, {1: 5}), 1)
        self.assertEqual(rank_bound(lines, {0: PRIME}), 0)
        self.assertEqual(rank_bound(lines, {0: PRIME, 1: 1}), 1)
        self.assertEqual(rank_bound(Lines([], [], []), {}), 0)
        made, mix = fewest_lines(lines, {0: PRIME, 1: 1})
        self.assertEqual((len(made.starts), len(mix)), (2, 2))

    def test_rules(self):
        chance = random.Random(1)
        low = 0
        for _ in range(120):
            arguments = made_rule(chance, chance.randint(1, 4))
            f = rule(*arguments)
            check(self, f, PlainRule(*arguments), range(48), (10 ** 40,))
            low += rank_bound(f.lines, f.mix) < f.rank
        self.assertGreater(low, 20)

    def test_operators(self):
        chance = random.Random(2)
        for _ in range(30):
            arguments, others = made_rule(chance, 2), made_rule(chance, 2)
            f, g = rule(*arguments), rule(*others)
            value, other = PlainRule(*arguments), PlainRule(*others)
            check(self, f + g, lambda m: value(m) + other(m), range(40), ())
            check(self, f * g, lambda m: value(m) * other(m), range(40), ())
            check(self, PRIME * f + n, lambda m: PRIME * value(m) + m, range(40), ())
            self.assertEqual(PRIME * f - PRIME * f, constant(0))

    def test_ranks_of_16_and_17(self):
        self.assertEqual((PRIME * single(2 ** 14 - 1) + PRIME).rank, 16)
        with self.assertRaises(TooMany):
            PRIME * single(2 ** 15 - 1) + PRIME
        with self.assertRaises(TooMany):
            single(2 ** 15 - 1) + PRIME
        self.assertEqual((single(2 ** 14 - 1) + PRIME).rank, 16)

    def test_new_numbers_and_relations(self):
        chance = random.Random(3)
        for _ in range(30):
            functions = [rule(*made_rule(chance, chance.randint(1, 3))) for _ in range(chance.randint(1, 4))]
            self.assertEqual(new_numbers(*functions), plain_new_numbers(functions, 600))
            f = functions[0]
            self.assertEqual(relations(f, PRIME * f), ((-PRIME, 1),) if f else ((1, 0), (0, 1)))
            self.assertIsNone(parting(PRIME * f + f, (PRIME + 1) * f))
        self.assertEqual(parting(n, n + PRIME * single(9)), 9)
        self.assertEqual(parting(PRIME * n, 2 * PRIME * n), 1)


if __name__ == "__main__":
    unittest.main()
