"""Numbers and where: sets of numbers, what is asked of them and what is made of them."""

import operator
import random
import unittest

from halverules.errors import InvalidNumber, InvalidValues, NoMember, NotAFunction, TooMany, TooManyStates
from halverules.halved import Halved, constant, number, single
from halverules.loops import from_high
from halverules.numbers import Numbers, where
from halverules.rules import rule
from halverules.sums import sums
from making import both, made_rule
from reference import basic_parts, different_parts

n = number()
LARGEST = 10 ** 300
GREAT = (2 ** 64, 10 ** 30 + 7, 3 ** 200, LARGEST - 1, LARGEST)
OTHER_KINDS = [None, True, False, 0, 1, 5, "1", b"", (), (1,), [], [1], {}, {1}, frozenset(), object(), int, n, range(3)]
SIGNS = {
    operator.and_: lambda one, other: one and other,
    operator.or_: lambda one, other: one or other,
    operator.sub: lambda one, other: one and not other,
    operator.xor: lambda one, other: one != other,
}


def all_told(numbers):
    """All that a set tells of itself without being asked for a number."""
    return numbers.states, numbers.least, numbers.is_finite, bool(numbers)


class Checking(unittest.TestCase):
    def check(self, numbers, holds, below=300, great=GREAT):
        """The set has just the numbers for which the plain function holds."""
        self.assertIsInstance(numbers, Numbers)
        members = [m for m in range(below) if holds(m)]
        for m in [*range(below), *great]:
            self.assertIs(m in numbers, bool(holds(m)))
        for m in (0, 1, 2, 3, 7, below // 2, below):
            self.assertEqual(numbers.count(m), len([member for member in members if member < m]))
        for index in {0, 1, len(members) // 2, len(members) - 1} & set(range(len(members))):
            self.assertEqual(numbers.kth(index), members[index])
        if members:
            self.assertEqual(numbers.least, members[0])
            self.assertIs(bool(numbers), True)
        self.assertIs(type(numbers.states), int)
        self.assertIs(type(numbers.is_finite), bool)

    def same(self, one, other):
        self.assertIs(one == other, True)
        self.assertIs(one != other, False)
        self.assertEqual(all_told(one), all_told(other))
        self.assertEqual(one.count(LARGEST), other.count(LARGEST))
        self.assertIs(one <= other, True)
        self.assertIs(other <= one, True)

    def apart(self, one, other):
        self.assertIs(one == other, False)
        self.assertIs(other != one, True)
        self.assertFalse(one <= other and other <= one)


class ToldTest(Checking):
    def test_some_members(self):
        chance = random.Random(1)
        self.check(Numbers.told(), lambda m: False)
        for members in ((0,), (1,), (5,), (0, 1), (2, 5), (0, 1, 2, 3), (7, 8), (1, 2, 4, 8, 16, 32), tuple(range(200))):
            self.check(Numbers.told(*members), members.__contains__)
        for _ in range(30):
            members = tuple(sorted(chance.sample(range(250), chance.randint(1, 40))))
            told = Numbers.told(*members)
            self.check(told, members.__contains__)
            self.assertEqual(told.states, different_parts(members.__contains__, range(256), 300))
            self.assertIs(told.is_finite, True)
            self.assertEqual([told.kth(index) for index in range(len(members))], list(members))
            for index in (len(members), len(members) + 1, LARGEST):
                with self.assertRaises(NoMember) as held:
                    told.kth(index)
                self.assertEqual(held.exception.index, index)

    def test_great_members(self):
        for members in ((LARGEST,), (LARGEST - 1,), (0, LARGEST), (3, 10 ** 30), (10 ** 30, 10 ** 60), (2 ** 990,)):
            told = Numbers.told(*members)
            self.assertEqual([told.kth(index) for index in range(len(members))], list(members))
            self.assertEqual(told.least, members[0])
            for m in [*range(40), *members, *[m - 1 for m in members], *[m + 1 for m in members], 2 * LARGEST]:
                self.assertIs(m in told, m in members)
            self.assertEqual(told.count(LARGEST), len([m for m in members if m < LARGEST]))
            self.assertEqual(told.count(members[-1]), len(members) - 1)
            self.assertIs(told.is_finite, True)
            with self.assertRaises(NoMember):
                told.kth(len(members))
        self.assertEqual(Numbers.told(LARGEST).states, LARGEST.bit_length() + 2)

    def test_called_off_an_object_too(self):
        self.assertEqual(Numbers.told(4).told(1, 2), Numbers.told(1, 2))
        self.assertIsInstance(vars(Numbers)["told"], staticmethod)

    def test_wrong_members(self):
        def raised(index, *members):
            with self.assertRaises(InvalidValues) as held:
                Numbers.told(*members)
            self.assertEqual((held.exception.index, type(held.exception.index)), (index, int))

        for thing in [thing for thing in OTHER_KINDS if type(thing) is not int] + [
                -1, -10 ** 319, LARGEST + 1, 10 ** 319, Numbers.told(1), 1 + 0j]:
            raised(0, thing)
            raised(0, thing, thing)
            raised(0, thing, 5)
            raised(1, 5, thing)
            raised(2, 5, 6, thing, 7)
            raised(2, 5, 6, thing, 3)
            raised(1, 5, 5, thing)
        raised(1, 5, 5)
        raised(1, 5, 4)
        raised(1, 0, 0)
        raised(2, 1, 2, 1)
        raised(3, 1, 2, LARGEST, LARGEST)
        raised(1, 5, 4, 3, 2)
        raised(0, (1, 2))

    def test_too_many_states(self):
        with self.assertRaises(TooManyStates):
            Numbers.told(3 ** 600, 5 ** 420)
        with self.assertRaises(TooManyStates):
            Numbers.told(3 ** 600, 5 ** 420, LARGEST)
        with self.assertRaises(InvalidValues):
            Numbers.told(3 ** 600, 5 ** 420, 7)


class WhereTest(Checking):
    def functions(self):
        chance = random.Random(2)
        found = [(constant(7), lambda m: 7), (n, lambda m: m), (n * n - 3, lambda m: m * m - 3),
                 (single(5) * 7, lambda m: 7 * (m == 5)), (n // 3, lambda m: m // 3)]
        return found + [both(made_rule(chance, many, 3, 3)) for many in (1, 1, 2, 2, 3)]

    def test_rests(self):
        refused = []
        for f, value in self.functions():
            for modulus in range(2, 13):
                sets = []
                for rest in range(modulus):
                    try:
                        found = where(f, modulus, rest)
                    except TooManyStates:
                        refused.append((value, modulus))
                        break
                    self.check(found, lambda m: value(m) % modulus == rest, 100, GREAT[1:2])
                    sets.append(found)
                if len(sets) == modulus:
                    self.check_all_rests(f, modulus, sets)
        for value, modulus in refused[:2]:
            self.assertGreater(different_parts(lambda m: value(m) % modulus, range(120), 1100), 1024)

    def check_all_rests(self, f, modulus, sets):
        """The sets of all rests are apart, together they are everything, and multiples of the modulus change nothing."""
        if max(found.states for found in sets) > 60:
            return
        everything = Numbers.told()
        for at, found in enumerate(sets):
            self.assertFalse(found & sets[at - 1])
            everything = everything | found
            self.same(where(f + modulus * n, modulus, at), found)
            self.same(where(f - 10 ** 50 * modulus, modulus, at), found)
        self.same(everything, ~Numbers.told())
        self.assertEqual(everything.states, 1)

    def test_known_sets(self):
        threes = where(n, 3, 0)
        self.assertEqual((threes.states, threes.least, threes.is_finite), (3, 0, False))
        self.assertEqual(where(n, 2, 0).states, 3)
        self.same(where(n * n, 8, 1), where(n, 2, 1))
        self.same(where(n * n, 4, 2), Numbers.told())
        self.same(where(constant(5), 7, 5), ~Numbers.told())
        self.same(where(single(9), 2, 1), Numbers.told(9))
        self.same(where(single(9) + single(3), 12, 1), Numbers.told(3, 9))
        ones = rule(((1, 0), (0, 1)), ((1, 1), (0, 1)), (0, 1), (1, 0))
        self.check(where(ones, 2, 1), lambda m: m.bit_count() % 2 == 1)
        self.assertEqual(where(ones, 2, 1).states, 2)
        self.assertEqual(where(ones, 2, 1).count(2 ** 900), 2 ** 899)
        powers = rule(((1,),), ((2,),), (1,), (1,))
        self.check(where(powers, 4, 2), lambda m: m.bit_count() == 1)
        self.assertEqual([where(powers, 4, 2).kth(index) for index in (0, 5, 996)], [1, 32, 2 ** 996])
        with self.assertRaises(NoMember):
            where(powers, 4, 2).kth(997)

    def test_many_different_parts(self):
        # Ones at even and at odd places, and further: more parts than a function for `%` may have.
        f, value = n * n - n // 5, lambda m: m * m - m // 5
        for modulus in (5, 7, 11):
            parts = different_parts(lambda m: value(m) % modulus, range(400), 1100)
            if parts <= 1024:
                self.check(where(f, modulus, 1), lambda m: value(m) % modulus == 1)
            else:
                with self.assertRaises(TooManyStates):
                    where(f, modulus, 1)
            self.assertGreater(parts, 64)

    def test_1024_different_parts(self):
        seen = set()
        for at in (0, 2, 5, 8, 16, 31):
            f = n // 5 + single(at)
            parts = different_parts(lambda m: (m // 5 + (m == at)) % 10, range(64), 1100)
            seen.add(parts)
            for rest in (0, 3, 9):
                if parts > 1024:
                    with self.assertRaises(TooManyStates):
                        where(f, 10, rest)
                else:
                    self.check(where(f, 10, rest), lambda m: (m // 5 + (m == at)) % 10 == rest, 100)
        self.assertTrue({1023, 1024, 1025} <= seen)
        # It is the rests as a function that may not have more parts; the set itself may have few.
        with self.assertRaises(TooManyStates):
            where(n // 5 + single(16), 10, 0)
        self.check(where(n // 5 + single(16), 5, 0), lambda m: (m // 5 + (m == 16)) % 5 == 0)

    def test_by_name(self):
        self.same(where(rest=1, modulus=3, f=n), where(n, 3, 1))

    def test_errors(self):
        for thing in (0, True, None, "n", (), [n], object(), number, Numbers.told(1)):
            for modulus in (2, 1, None):
                with self.assertRaises(NotAFunction) as held:
                    where(thing, modulus, None)
                self.assertIs(held.exception.value, thing)
        for thing in (1, 13, 0, -2, 10 ** 319, True, None, "2", (2,), [2], n, object(), 2 + 0j):
            for rest in (0, -1, None):
                with self.assertRaises(InvalidNumber) as held:
                    where(n, thing, rest)
                self.assertIs(held.exception.number, thing)
        for modulus in range(2, 13):
            for thing in (modulus, modulus + 1, -1, 10 ** 319, True, False, None, "1", (1,), [1], n, object(), 1 + 0j):
                with self.assertRaises(InvalidNumber) as held:
                    where(n, modulus, thing)
                self.assertIs(held.exception.number, thing)

    def test_too_many_comes_last(self):
        late = n ** 3 * 5 - n // 7 * n
        with self.assertRaises(TooManyStates):
            where(late, 11, 0)
        with self.assertRaises(InvalidNumber):
            where(late, 11, 11)


class AskedTest(Checking):
    def test_in(self):
        threes = where(n, 3, 0)
        for thing in [*[thing for thing in OTHER_KINDS if type(thing) is not int], -3, -1, -10 ** 319, "3", "", (3,), 3 + 0j]:
            self.assertIs(thing in threes, False)
            self.assertIs(thing in ~threes, False)
        self.assertIs(3 * 10 ** 318 in threes, True)
        self.assertIs(3 * 10 ** 318 + 1 in threes, False)

    def test_least(self):
        self.assertIs(Numbers.told().least, None)
        self.assertIs((where(n, 4, 1) & where(n, 2, 0)).least, None)
        self.assertEqual((where(n, 5, 4) & where(n, 7, 6) & where(n, 9, 8)).least, 314)
        powers = where(rule(((1,),), ((2,),), (1,), (1,)), 4, 2)
        self.assertEqual((powers - Numbers.told(1, 2, 4, 8)).least, 16)
        self.assertEqual(Numbers.told(LARGEST).least, LARGEST)
        # Least members with more and more digits, up to one that is greater than any that may be asked for.
        for size in (3, 5, 16):
            self.assertEqual(ring(size, size - 1).least, 2 ** (size - 1) - 1)
        self.assertEqual((ring(16, 15) & ring(15, 14)).least, 2 ** 239 - 1)
        great = ring(16, 15) & ring(9, 8) & ring(7, 6)
        self.assertEqual((great.states, great.least, great.count(LARGEST)), (1008, 2 ** 1007 - 1, 0))
        with self.assertRaises(NoMember):
            great.kth(0)

    def test_is_finite(self):
        for numbers, finite in (
                (Numbers.told(), True), (Numbers.told(0), True), (Numbers.told(0, 5), True), (~Numbers.told(), False),
                (~Numbers.told(3), False), (where(n, 3, 0), False), (where(n, 3, 0) & Numbers.told(3, 4), True),
                (Numbers.told(LARGEST), True), (where(n // 8, 8, 0) - where(n // 8, 12, 0), False),
                (where(rule(((1,),), ((2,),), (1,), (1,)), 2, 1), True),
                (where(rule(((1,),), ((2,),), (1,), (1,)), 4, 2), False), (where(single(9), 2, 1), True),
                (where(n >> 9, 2, 1) & where(n, 1 + 1, 0), False)):
            self.assertIs(numbers.is_finite, finite)

    def test_count(self):
        for modulus in range(2, 8):
            for rest in range(modulus):
                found = where(n, modulus, rest)
                for below in (0, 1, 5, 100, 10 ** 20, LARGEST - 1, LARGEST):
                    self.assertEqual(found.count(below), (below - rest + modulus - 1) // modulus)
                self.assertEqual(found.count(below=77), len(range(rest, 77, modulus)))
        self.assertEqual((~Numbers.told()).count(LARGEST), LARGEST)
        self.assertEqual(Numbers.told().count(LARGEST), 0)

    def test_kth(self):
        for modulus in range(2, 8):
            for rest in range(modulus):
                found = where(n, modulus, rest)
                last = (LARGEST - rest) // modulus
                for index in (0, 1, 2, 50, 10 ** 40, last - 1, last):
                    self.assertEqual(found.kth(index), index * modulus + rest)
                for index in (last + 1, last + 2, LARGEST):
                    with self.assertRaises(NoMember) as held:
                        found.kth(index)
                    self.assertEqual(held.exception.index, index)
        everything = ~Numbers.told()
        self.assertEqual([everything.kth(index=5), everything.kth(LARGEST)], [5, LARGEST])
        without = ~Numbers.told(0)
        self.assertEqual(without.kth(LARGEST - 1), LARGEST)
        with self.assertRaises(NoMember):
            without.kth(LARGEST)
        for index in (0, 1, LARGEST):
            with self.assertRaises(NoMember) as held:
                Numbers.told().kth(index)
            self.assertEqual(held.exception.index, index)

    def test_wrong_numbers(self):
        for numbers in (Numbers.told(), where(n, 3, 1), ~Numbers.told(LARGEST)):
            for thing in [*[thing for thing in OTHER_KINDS if type(thing) is not int], -1, LARGEST + 1, 10 ** 319, -10 ** 319]:
                for call in (numbers.count, numbers.kth):
                    with self.assertRaises(InvalidNumber) as held:
                        call(thing)
                    self.assertIs(held.exception.number, thing)

    def test_truth(self):
        for numbers in (Numbers.told(), where(n, 2, 0) & where(n, 2, 1), where(constant(3), 5, 2)):
            self.assertIs(bool(numbers), False)
        for numbers in (Numbers.told(0), ~Numbers.told(), Numbers.told(LARGEST), where(n, 12, 11)):
            self.assertIs(bool(numbers), True)

    def test_nothing_can_be_set(self):
        for name in ("states", "least", "is_finite"):
            with self.assertRaises(AttributeError):
                setattr(Numbers.told(3), name, 5)


class JoinedTest(Checking):
    def pool(self, chance):
        """Sets by rests and finite ones, with the plain functions."""
        found = []
        for _ in range(4):
            modulus = chance.randint(2, 9)
            rest = chance.randrange(modulus)
            found.append((where(n, modulus, rest), lambda m, modulus=modulus, rest=rest: m % modulus == rest))
            members = tuple(sorted(chance.sample(range(120), chance.randint(0, 12))))
            found.append((Numbers.told(*members), members.__contains__))
            f, value = both(made_rule(chance, chance.randint(1, 2), 2, 2))
            modulus = chance.randint(2, 4)
            rest = chance.randrange(modulus)
            found.append((where(f, modulus, rest), lambda m, v=value, mod=modulus, r=rest: v(m) % mod == r))
        return found

    def test_four_levels(self):
        chance = random.Random(4)
        refused = 0
        for _ in range(12):
            level = self.pool(chance)
            for _ in range(4):
                further = []
                for _ in range(8):
                    (one, holds), (other, counts) = chance.choice(level), chance.choice(level)
                    calls, plain = chance.choice(list(SIGNS.items()))
                    before = all_told(one), all_told(other)
                    try:
                        made = calls(one, other)
                    except TooManyStates:
                        refused += 1
                        continue
                    joined = (lambda m, plain=plain, h=holds, c=counts: plain(bool(h(m)), bool(c(m))))
                    self.check(made, joined, 150, GREAT[:2])
                    further.append((made, joined))
                    self.check(~made, lambda m: not joined(m), 60, ())
                    self.same(~~made, made)
                    self.assertEqual((all_told(one), all_told(other)), before)
                level = level[:6] + [pair for pair in further if pair[0].states < 80]
        self.assertLess(refused, 40)

    def test_states(self):
        chance = random.Random(5)
        for _ in range(20):
            (one, holds), (other, counts) = chance.sample(self.pool(chance), 2)
            for calls, plain in SIGNS.items():
                made = calls(one, other)
                parts = different_parts(lambda m: plain(bool(holds(m)), bool(counts(m))), range(400), 1100)
                self.assertEqual(made.states, parts)
                self.assertEqual((~made).states, parts)

    def test_laws(self):
        chance = random.Random(6)
        for _ in range(10):
            one, other, third = [numbers for numbers, _ in chance.sample(self.pool(chance), 3)]
            if one.states * other.states * third.states > 3000:
                continue
            self.same(one & other, other & one)
            self.same(one | other, ~(~one & ~other))
            self.same(one - other, one & ~other)
            self.same(one ^ other, (one - other) | (other - one))
            self.same((one | other) & third, one & third | other & third)
            self.same(one ^ other ^ other, one)
            self.same(one - one, Numbers.told())
            self.same(one | ~one, ~Numbers.told())
            self.assertIs(one & other <= one, True)
            self.assertIs(one <= one | other, True)
            self.assertIs(one <= other, not one - other)

    def test_made_in_other_ways(self):
        self.same(where(n, 6, 0), where(n, 2, 0) & where(n, 3, 0))
        self.same(where(n, 12, 5), where(n, 3, 2) & where(n, 4, 1))
        self.same(where(n, 4, 0) | where(n, 4, 2), where(n, 2, 0))
        self.same(where(n, 3, 0) | where(n, 3, 1), ~where(n, 3, 2))
        self.same(Numbers.told(1, 4) | Numbers.told(4, 9), Numbers.told(1, 4, 9))
        self.same(Numbers.told(1, 4, 9) - Numbers.told(4), Numbers.told(1, 9))
        self.same(Numbers.told(*range(64)), where(n // 8 // 8, 12, 0) & Numbers.told(*range(100)))
        self.same(where(n % 3 + 3 * (n % 2), 12, 4), where(n, 6, 1))

    def test_one_number_changed(self):
        chance = random.Random(7)
        for numbers in (where(n, 3, 0), where(n * n, 7, 2), Numbers.told(4, 100), ~Numbers.told(), Numbers.told()):
            for at in (0, 1, 4, 99, 10 ** 6 + 1, 10 ** 29 + 9, chance.randrange(10 ** 29, 10 ** 30)):
                one = Numbers.told(at)
                changed = numbers ^ one
                self.apart(changed, numbers)
                self.same(changed ^ one, numbers)
                self.assertIs(at in changed, at not in numbers)
                self.assertEqual((changed ^ numbers).least, at)
                self.assertEqual(abs(changed.count(10 ** 40) - numbers.count(10 ** 40)), 1)
                self.assertIs(changed <= numbers, at in numbers)
                self.assertIs(numbers <= changed, at not in numbers)

    def test_within(self):
        self.assertIs(Numbers.told() <= Numbers.told(), True)
        self.assertIs(Numbers.told(6, 12) <= where(n, 6, 0), True)
        self.assertIs(Numbers.told(6, 13) <= where(n, 6, 0), False)
        self.assertIs(where(n, 12, 0) <= where(n, 4, 0), True)
        self.assertIs(where(n, 4, 0) <= where(n, 12, 0), False)
        self.assertIs(where(n, 3, 0) <= ~Numbers.told(), True)
        self.assertIs(~Numbers.told() <= where(n, 3, 0), False)
        self.assertIs(~Numbers.told(LARGEST) <= ~Numbers.told(LARGEST - 1), False)

    def test_other_kinds(self):
        for numbers in (Numbers.told(), where(n, 3, 0)):
            for thing in OTHER_KINDS:
                for calls in (*SIGNS, operator.le):
                    with self.assertRaises(TypeError):
                        calls(numbers, thing)
                    with self.assertRaises(TypeError):
                        calls(thing, numbers)
                self.assertIs(numbers == thing, False)
                self.assertIs(numbers != thing, True)
            for calls in (operator.add, operator.mul, operator.mod, operator.lshift, operator.lt, operator.truediv):
                for thing in (numbers, 1, n):
                    with self.assertRaises(TypeError):
                        calls(numbers, thing)
            for calls in (operator.neg, operator.pos, abs, len, iter, int):
                with self.assertRaises(TypeError):
                    calls(numbers)


def ring(size, *wanted):
    """The numbers whose number of ones has one of these rests by `size`: it has so many classes."""
    even = tuple(tuple(int(to == at) for to in range(size)) for at in range(size))
    odd = tuple(tuple(int(to == (at + 1) % size) for to in range(size)) for at in range(size))
    return where(rule(even, odd, tuple(int(at in wanted) for at in range(size)), (1, *[0] * (size - 1))), 2, 1)


class StatesTest(Checking):
    def test_rings(self):
        for size in (2, 3, 7, 16):
            self.assertEqual(ring(size, 1).states, size)
            self.check(ring(size, 1), lambda m: m.bit_count() % size == 1)

    def test_joined_rings(self):
        # The classes of two rings without a common divisor are multiplied.
        self.assertEqual((ring(16, 1) & ring(13, 1)).states, 208)
        self.assertEqual((ring(16, 1) | ring(15, 1)).states, 240)
        five = ring(16, 1) & ring(5, 1)
        self.assertEqual((five & ring(11, 2)).states, 880)
        for calls in SIGNS:
            with self.assertRaises(TooManyStates):
                calls(five, ring(13, 2))

    def test_1024_classes_of_told_numbers(self):
        seen = set()
        for extra in range(20, 40):
            members = (2 ** extra, 2 ** 996 - 1)
            classes = plain_classes(members)
            seen.add(classes)
            if classes > 1024:
                with self.assertRaises(TooManyStates):
                    Numbers.told(*members)
            else:
                self.assertEqual(Numbers.told(*members).states, classes)
        self.assertTrue({1023, 1024, 1025, 1026} <= seen)

    def test_1024_classes_of_joined_sets(self):
        seen = set()
        for extra in range(20, 40):
            one, other = Numbers.told(2 ** extra), Numbers.told(2 ** 996 - 1)
            classes = plain_classes((2 ** extra, 2 ** 996 - 1))
            seen.add(classes)
            for calls in (operator.or_, operator.xor):
                if classes > 1024:
                    with self.assertRaises(TooManyStates):
                        calls(one, other)
                else:
                    self.assertEqual(calls(one, other).states, classes)
            self.assertEqual((one & other).states, 1)
            self.assertEqual(one - other, one)
        self.assertTrue({1023, 1024, 1025, 1026} <= seen)

    def test_4096_pairs(self):
        # The sets have no member in common, so that all pairs that are not let are the only reason to refuse.
        one = ring(16, 1) & ring(13, 1) & second_digit(0)
        other = ring(15, 1) & second_digit(1)
        seen = set()
        for digits in range(520, 540):
            changed = other ^ Numbers.told(2 ** digits - 1)
            count = plain_pairs(one, changed)
            if not 4094 <= count <= 4098:
                continue
            seen.add(count)
            if count > 4096:
                for calls in SIGNS:
                    with self.assertRaises(TooManyStates):
                        calls(one, changed)
                    with self.assertRaises(TooManyStates):
                        calls(changed, one)
            else:
                self.same(one & changed, Numbers.told())
                self.same(changed & one, Numbers.told())
                self.same(one - changed, one)
            self.assertIs(one <= changed, False)
            self.assertIs(one <= ~changed, True)
        self.assertTrue({4095, 4096, 4097} <= seen)


def second_digit(digit):
    """The numbers whose second digit, from the high end, is this one."""
    # The variables are: no digit yet, one digit, the second one was 0, it was 1.
    zero = ((1, 0, 0, 0), (0, 0, 0, 0), (0, 1, 1, 0), (0, 0, 0, 1))
    one = ((0, 0, 0, 0), (1, 0, 0, 0), (0, 0, 1, 0), (0, 1, 0, 1))
    return where(from_high((1, 0, 0, 0), zero, one, (0, 0, 1 - digit, digit)), 2, 1)


def plain_classes(members):
    """How many classes a finite set has, from its members alone."""
    found, waiting = {tuple(members)}, [tuple(members)]
    while waiting:
        row = waiting.pop()
        for digit in (0, 1):
            half = tuple(m >> 1 for m in row if m & 1 == digit)
            if half not in found:
                found.add(half)
                waiting.append(half)
    return len(found)


def plain_pairs(one, other):
    """How many different pairs of classes two sets have."""
    found, waiting = {(0, 0)}, [(0, 0)]
    while waiting:
        first, second = waiting.pop()
        for pair in zip(one.parts.halves[first], other.parts.halves[second]):
            if pair not in found:
                found.add(pair)
                waiting.append(pair)
    return len(found)


class IndicatorTest(Checking):
    def test_members(self):
        for numbers in (Numbers.told(), Numbers.told(0), Numbers.told(3, 9), ~Numbers.told(), where(n, 3, 1), where(n * n, 5, 4),
                        where(n, 3, 1) - Numbers.told(1), ring(16, 3)):
            made = numbers.indicator()
            self.assertIsInstance(made, Halved)
            for m in (*range(100), *GREAT):
                self.assertEqual((made(m), type(made(m))), (int(m in numbers), int))
            self.assertEqual(where(made, 2, 1), numbers)
            self.assertEqual(where(made, 7, 0), ~numbers)
            if made.rank < 8:
                added = sums(made)
                for m in (0, 1, 2, 50, 10 ** 20, LARGEST):
                    self.assertEqual(added(m), numbers.count(m))
            self.assertEqual((~numbers).indicator(), 1 - made)
        self.assertEqual(Numbers.told(7).indicator(), single(7))
        self.assertEqual(where(n, 2, 1).indicator(), n % 2)

    def test_of_joined_sets(self):
        one, other = where(n, 3, 0), where(n // 2, 2, 1)
        self.assertEqual((one & other).indicator(), one.indicator() * other.indicator())
        self.assertEqual((one | other).indicator() + (one & other).indicator(), one.indicator() + other.indicator())

    def test_rank_of_16_and_17(self):
        self.assertEqual(Numbers.told(2 ** 15 - 1).indicator(), single(2 ** 15 - 1))
        for numbers in (Numbers.told(2 ** 15), ~Numbers.told(2 ** 15 - 1), Numbers.told(2 ** 40)):
            self.assertLess(numbers.states, 64)
            with self.assertRaises(TooMany):
                numbers.indicator()
        self.assertEqual((~Numbers.told(2 ** 14 - 1)).indicator().rank, 16)

    def test_64_classes_and_65(self):
        # Two rings, the one where the second digit is 0 and the other where it is 1, have many classes and a small rank.
        second = [second_digit(digit) for digit in (0, 1)]
        for m in range(2, 100):
            self.assertEqual([m in numbers for numbers in second], [bin(m)[3] == "0", bin(m)[3] == "1"])
        both_rings = (ring(4, 0, 1) & second[1]) | (ring(7, 0) & second[0])
        self.assertEqual(both_rings.states, 64)
        made = both_rings.indicator()
        self.assertEqual(made.rank, len(basic_parts(lambda m: int(m in both_rings), range(600))))
        self.assertLess(made.rank, 16)
        for m in (*range(300), *GREAT):
            self.assertEqual(made(m), int(m in both_rings))
        odd = both_rings & where(n, 2, 1)
        self.assertEqual(odd.states, 65)
        self.assertLess(len(basic_parts(lambda m: int(m in odd), range(600))), 16)
        with self.assertRaises(TooMany):
            odd.indicator()


if __name__ == "__main__":
    unittest.main()
