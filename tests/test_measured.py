"""The questions that took longest: the answers are those that plain ways of counting and working out have."""

import bisect
import random
import unittest

from halverules.costs import costs
from halverules.errors import NoMember, TooManyStates
from halverules.halved import number, single
from halverules.learning import told_back
from halverules.numbers import Numbers, where
from halverules.relations import parting, relations
from halverules.rules import rule
from making import PlainRule, made_rule, signs, turning, turning_arguments

n = number()
ARGUMENTS = (((3, 0, 0), (5, 1, 0), (7, 0, 1)), ((100000, -99999, 1), (7, 100000, 3), (1, 2, 99998)), (0, 1, 2), (1, 1, 1))
f = rule(*ARGUMENTS)
LARGEST = 10 ** 300


def beside_powers(exponents=(1, 2, 3, 7, 8, 63, 64, 65, 500, 995, 996)):
    """0, 1, numbers just beside powers of 2, and the greatest ones."""
    found = {0, 1, LARGEST, LARGEST - 1, LARGEST // 2}
    for exponent in exponents:
        found |= {2 ** exponent + more for more in (-2, -1, 0, 1, 2)}
    return sorted(at for at in found if 0 <= at <= LARGEST)


PLACES = beside_powers()


class Counting:
    """How many numbers below one have a rest, digit by digit from the highest one on."""

    def __init__(self, arguments, modulus, rest):
        even, odd, firsts, told = arguments
        self.rows = even, odd
        self.modulus, self.rest, self.told = modulus, rest, told
        self.firsts = tuple(first % modulus for first in firsts)

    def next(self, values, digit):
        return tuple(sum(a * b for a, b in zip(row, values)) % self.modulus for row in self.rows[digit])

    def fits(self, values):
        return sum(a * b for a, b in zip(self.told, values)) % self.modulus == self.rest

    def count(self, below):
        loose, own = {}, self.firsts
        for place in reversed(range(below.bit_length())):
            further = {}
            for values, ways in loose.items():
                for digit in (0, 1):
                    half = self.next(values, digit)
                    further[half] = further.get(half, 0) + ways
            digit = below >> place & 1
            if digit:
                half = self.next(own, 0)
                further[half] = further.get(half, 0) + 1
            loose, own = further, self.next(own, digit)
        return sum(ways for values, ways in loose.items() if self.fits(values))


NUMBER = (((2, 0), (0, 1)), ((2, 1), (0, 1)), (0, 1), (1, 0))


class SetsTest(unittest.TestCase):
    def check_told(self, members):
        """count and kth of a set of few members, and of all others."""
        found = Numbers.told(*members)
        others = ~found
        places = sorted({*PLACES, *[at + more for at in members for more in (-1, 0, 1) if 0 <= at + more <= LARGEST]})
        for below in places:
            lesser = bisect.bisect_left(members, below)
            self.assertEqual(found.count(below), lesser)
            self.assertEqual(others.count(below), below - lesser)
            self.assertEqual((below in found, below in others), (below in members, below not in members))
        for at, member in enumerate(members):
            self.assertEqual(found.kth(at), member)
        for at in (len(members), len(members) + 1, LARGEST):
            with self.assertRaises(NoMember) as held:
                found.kth(at)
            self.assertEqual(held.exception.index, at)
        for at in places:
            # The number before which there are so many others: as many more as members are not greater.
            wanted = at
            for member in members:
                wanted += member <= wanted
            if wanted > LARGEST:
                with self.assertRaises(NoMember):
                    others.kth(at)
            else:
                self.assertEqual(others.kth(at), wanted)
        self.assertEqual((found.is_finite, others.is_finite), (True, False))
        self.assertEqual(found.least, members[0] if members else None)

    def test_told(self):
        for members in ((), (0,), (1,), (0, 1), (LARGEST,), (0, LARGEST), (LARGEST - 1,), (2 ** 996 - 1,), (2 ** 996,), (2 ** 500,),
                        tuple(range(40)), tuple(PLACES[:20]), (5, 10 ** 100, 10 ** 100 + 1)):
            self.check_told(members)
        self.assertEqual(Numbers.told(LARGEST).count(LARGEST), 0)
        self.assertEqual(Numbers.told(LARGEST).kth(0), LARGEST)
        self.assertEqual((~Numbers.told(LARGEST)).kth(10 ** 299), 10 ** 299)
        self.assertEqual((~Numbers.told(5)).kth(LARGEST - 1), LARGEST)
        with self.assertRaises(NoMember):
            (~Numbers.told(5)).kth(LARGEST)

    def check_where(self, function, arguments, modulus, rest, places):
        found = where(function, modulus, rest)
        plain = Counting(arguments, modulus, rest)
        line = PlainRule(*arguments)
        for below in places:
            self.assertEqual(found.count(below), plain.count(below))
            self.assertEqual(below in found, line(below) % modulus == rest)
        total = plain.count(LARGEST)
        for index in sorted({at for at in (0, 1, 2, 3, 7, 8, 9, 63, 64, total // 2, total - 1, total, total + 1, 10 ** 298, LARGEST)}):
            if 0 <= index < total or index == total and LARGEST in found:
                member = found.kth(index)
                self.assertEqual((line(member) % modulus, plain.count(member)), (rest, index))
            elif 0 <= index <= LARGEST:
                with self.assertRaises(NoMember):
                    found.kth(index)
        return found

    def test_where(self):
        few = [0, 1, 2, 3, 2 ** 64 - 1, 2 ** 64 + 1, LARGEST]
        self.check_where(f, ARGUMENTS, 7, 1, few)
        self.check_where(f, ARGUMENTS, 8, 1, few)
        self.check_where(f, ARGUMENTS, 2, 0, PLACES)
        for modulus in (2, 3, 7, 12):
            for rest in (0, modulus - 1):
                found = self.check_where(n, NUMBER, modulus, rest, PLACES)
                for at in PLACES[:-3]:
                    if at * modulus + rest <= LARGEST:
                        self.assertEqual(found.kth(at), at * modulus + rest)
        cubes = where(n * n * n, 7, 1)
        for below in PLACES:
            self.assertEqual(cubes.count(below), below // 7 * 3 + sum(rest ** 3 % 7 == 1 for rest in range(below % 7)))
        self.assertEqual(cubes.kth(10 ** 298), 10 ** 298 // 3 * 7 + [1, 2, 4][10 ** 298 % 3])

    def test_drawn(self):
        chance = random.Random(501)
        for _ in range(12):
            arguments = made_rule(chance, chance.randint(1, 3))
            modulus = chance.randint(2, 5)
            self.check_where(rule(*arguments), arguments, modulus, chance.randrange(modulus), [0, 1, 2 ** 64 - 1, 2 ** 300 + 1, LARGEST])

    def test_many_classes(self):
        for lines, chosen in ((11, 5), (14, 4)):
            function, _ = turning(lines, chosen)
            self.check_where(function, turning_arguments(lines, chosen), 2, 1, [0, 1, 2 ** 40 - 1, 2 ** 40, LARGEST])
        function, value = signs(10)
        found = where(function, 12, 10)
        self.assertEqual([found.count(below) for below in (0, 1, 2000)], [
            sum(value(m) == 10 for m in range(below)) + sum(value(m) == -2 for m in range(below)) for below in (0, 1, 2000)])

    def test_joined(self):
        first, second = where(f, 7, 1), where(n, 2, 1)
        both, either, only, one = first & second, first | second, first - second, first ^ second
        line = PlainRule(*ARGUMENTS)
        for at in (*range(300), *PLACES):
            a, b = line(at) % 7 == 1, at % 2 == 1
            self.assertEqual((at in both, at in either, at in only, at in one), (a and b, a or b, a and not b, a != b))
        for below in (0, 1, 2 ** 64, LARGEST):
            self.assertEqual(either.count(below), first.count(below) + second.count(below) - both.count(below))
            self.assertEqual(one.count(below), either.count(below) - both.count(below))
            self.assertEqual(only.count(below), first.count(below) - both.count(below))

    def test_parts_that_differ_late(self):
        # Sets of one member with many digits have classes that differ only after as many halves.
        low, high = 2 ** 990 + 5, 2 ** 995 + 5
        first, second = Numbers.told(low), Numbers.told(high)
        self.assertEqual(first | second, Numbers.told(low, high))
        self.assertEqual((first | second).states, Numbers.told(low, high).states)
        self.assertEqual(first & second, Numbers.told())
        self.assertEqual((first ^ second) - second, first)
        self.assertEqual(~(~first & ~second), first | second)
        self.assertEqual((first | where(n, 2, 0)).count(LARGEST), LARGEST // 2 + 1)
        # These two have no classes but the last ones in common, and too many together.
        with self.assertRaises(TooManyStates):
            Numbers.told(LARGEST) | Numbers.told(LARGEST - 1)


class FunctionsTest(unittest.TestCase):
    def test_products_and_powers(self):
        line = PlainRule(*ARGUMENTS)
        product = f * n
        for at in PLACES:
            self.assertEqual(product(at), line(at) * at)
            self.assertEqual((f * f)(at), line(at) ** 2)
            self.assertEqual((n ** 3)(at), at ** 3)

    def test_partings(self):
        product = f * n
        for at in (0, 1, 2, 3, 7, 8, 9, 31, 32, 33, 100, 127, 128, 129):
            self.assertEqual(parting(product, product + single(at)), at)
            self.assertEqual(parting(product + single(at) * 3, product), at)
        self.assertIsNone(parting(product, n * f))
        for at in (2 ** 12 - 1, 2 ** 12, 2 ** 12 + 1, 2 ** 13 - 1):
            self.assertEqual(parting(n, n + single(at)), at)

    def test_told_back(self):
        values = tuple(f(at) for at in range(256))
        back = told_back(values)
        self.assertEqual(back, f)
        self.assertEqual([back(at) for at in PLACES], [f(at) for at in PLACES])
        chance = random.Random(502)
        # One value changed: the values that tell the rule, and those that only have to agree with it.
        self.assertEqual(told_back((values[0] + 5, *values[1:])), f + single(0) * 5)
        for at in (1, 2, 3, 7, 8, 9, 15, 16, 17, 31, 63, 64, 65, 127, 128, 129, 200, 254, 255):
            self.assertIsNone(told_back((*values[:at], values[at] + chance.choice((1, -1, 10 ** 20)), *values[at + 1:])))
        for many in (1, 2, 3, 4):
            arguments = made_rule(chance, many)
            wanted = rule(*arguments)
            if wanted.rank:
                self.assertEqual(told_back(tuple(PlainRule(*arguments)(at) for at in range(4 ** many))), wanted)

    def test_costs(self):
        found = costs(2, 3, f, (0, 1, 2, 3))
        line = PlainRule(*ARGUMENTS)
        known = {0: 0, 1: 1, 2: 2, 3: 3}

        def value(at):
            waiting = [at]
            while waiting:
                place = waiting[-1]
                needed = [half for half in (place // 2, (place + 1) // 2) if half not in known]
                if place in known or not needed:
                    waiting.pop()
                    if place not in known:
                        known[place] = 2 * known[place // 2] + 3 * known[(place + 1) // 2] + line(place)
                waiting += [] if place in known else needed
            return known[at]

        for at in (*range(200), *PLACES[::4], LARGEST):
            self.assertEqual(found(at), value(at))

    def test_relations(self):
        given = (f, n, f + n, n * n, f[2, 1], f - n)
        rows = relations(*given)
        self.assertEqual(rows, ((-1, -1, 1, 0, 0, 0), (-1, 1, 0, 0, 0, 1)))
        for row in rows:
            for at in (*range(50), *PLACES):
                self.assertEqual(sum(factor * function(at) for factor, function in zip(row, given)), 0)


if __name__ == "__main__":
    unittest.main()
