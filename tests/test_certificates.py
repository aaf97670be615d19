"""Certificates: claims that say what is so, and that the checker accepts."""

import random
import unittest

from halverules.along import powers
from halverules.certificates import certify_parting, certify_relations, certify_rests, plain_rule
from halverules.checker import accepts
from halverules.errors import InvalidNumber, InvalidValues, NotAFunction, TooMany, TooManyStates
from halverules.halved import Halved, constant, number, single
from halverules.loops import from_high
from halverules.numbers import where
from halverules.relations import new_numbers, parting, relations
from halverules.rules import rule
from halverules.sums import sums
from making import counted_signs, made_rule, mixed, reordered, signs, turning
from test_checker import Plain, all_places, exchanged, is_span

n = number()
NO_FUNCTIONS = [True, None, 5, 0, "n", (), (n,), [n], {}, object(), Halved, number, powers(2)]
NO_NUMBERS = [True, False, None, "2", "", b"2", (), (2,), [], {}, object(), int, n, 1 + 0j]
GREAT = (2 ** 70 - 1, 3 ** 100, 10 ** 300)


def functions():
    chance = random.Random(461)
    made = [constant(0), constant(-3), n, n * n, n % 3, n // 3, single(0), single(5), n[3, 2], sums(n % 2), n ** 3 - 10 ** 30,
            from_high((1, 0), ((1, 2), (0, 1)), ((0, 3), (-1, 1)), (1, 1))]
    for many in (1, 2, 3, 4, 6, 8):
        made.append(rule(*made_rule(chance, many)))
    made.append(rule(*made_rule(chance, 3, 10 ** 10)))
    return made


FUNCTIONS = functions()


class PlainRuleTest(unittest.TestCase):
    def test_plain_rule(self):
        for function in [*FUNCTIONS, single(2 ** 15 - 1), rule(*made_rule(random.Random(462), 16))]:
            value = plain_rule(f=function)
            self.assertEqual((type(value), len(value)), (tuple, 4))
            even, odd, firsts, told = value
            self.assertEqual(tuple(zip(even, odd)), function.equations)
            self.assertEqual(firsts, function.firsts)
            self.assertEqual(told, tuple((int(at == 0), 1) for at in range(function.rank)))
            values = tuple(function(at) for at in range(40))
            self.assertIs(accepts(("told", values, value), ()), True)
        self.assertEqual(plain_rule(constant(3)), ((((1, 1),),), (((1, 1),),), (3,), ((1, 1),)))
        self.assertEqual(plain_rule(constant(0)), ((), (), (), ()))

    def test_no_function(self):
        for wrong in NO_FUNCTIONS:
            with self.assertRaises(NotAFunction) as held:
                plain_rule(wrong)
            self.assertIs(held.exception.value, wrong)


class Certifying(unittest.TestCase):
    def check_pair(self, found):
        self.assertEqual((type(found), len(found)), (tuple, 2))
        self.assertIs(accepts(*found), True)


class PartingTest(Certifying):
    def check(self, f, g):
        found = certify_parting(f, g)
        self.check_pair(found)
        claim, certificate = found
        place = parting(f, g)
        rules = (plain_rule(f), plain_rule(g))
        self.assertEqual(claim, ("same", *rules) if place is None else ("parting", *rules, place))
        self.assertTrue(is_span(certificate, rules, place))
        numbers = new_numbers(f, g)
        self.assertEqual(certificate[0], numbers if place is None else tuple(at for at in numbers if at < place))
        self.assertEqual(certify_parting(f=f, g=g), found)
        if place is not None:
            self.assertEqual((f(place) != g(place), [at for at in range(min(place, 300)) if f(at) != g(at)]), (True, []))
            self.assertIs(accepts(("apart", *claim[1:]), ()), True)
            for word in ("same", "apart", "relation", "rests", "told"):
                self.assertIs(accepts((word, *claim[1:]), certificate), False)
            for other in (place - 1, place + 1, 10 ** 300):
                self.assertIs(accepts((*claim[:3], other), certificate), False)
            self.assertIs(accepts(("same", *rules), certificate), False)
        else:
            self.assertIs(accepts(("parting", *rules, 0), ((), ())), False)
            self.assertIs(accepts(("parting", *rules, 5), certificate), False)
            self.assertIs(accepts(("apart", *rules, 5), ()), False)
        return place

    def test_all_pairs(self):
        for at, first in enumerate(FUNCTIONS):
            for second in FUNCTIONS[at:]:
                self.assertEqual(self.check(first, second) is None, first == second)

    def test_made_in_other_ways(self):
        chance = random.Random(463)
        for many in (2, 3, 5):
            arguments = made_rule(chance, many)
            first = rule(*arguments)
            order = list(range(many))
            chance.shuffle(order)
            for second in (rule(*reordered(arguments, order)), rule(*mixed(arguments, 0, many - 1, 3)), first + n - n):
                self.assertIsNone(self.check(first, second))
                self.assertEqual(certify_parting(first, first), certify_parting(second, first))
                self.assertEqual(certify_rests(first, 2), certify_rests(second, 2))
                self.assertEqual(plain_rule(first), plain_rule(second))
                self.assertEqual(certify_relations(first, n), certify_relations(second, n))

    def test_late(self):
        for at in (0, 1, 2, 3, 7, 100, 255, 256, 2 ** 13 - 1):
            self.assertEqual(self.check(n, n + single(at)), at)
            self.assertEqual(self.check(single(at), constant(0)), at)
        self.assertEqual(self.check(single(2 ** 15 - 1), single(2 ** 15 - 2)), 2 ** 15 - 2)

    def test_great(self):
        chance = random.Random(464)
        for many, size in ((16, 3), (16, 10 ** 10), (9, 10 ** 11)):
            first = rule(*made_rule(chance, many, size))
            second = rule(*made_rule(chance, many, size))
            self.assertEqual((first.rank, second.rank), (many, many))
            self.check_pair(certify_parting(first, second))
            self.check_pair(certify_parting(first, first * 3))
            self.check_pair(certify_parting(first, first))

    def test_one_thing_exchanged(self):
        claim, certificate = certify_parting(n * n, n * n + single(4))
        for place in all_places(certificate):
            thing = certificate
            for at in place:
                thing = thing[at]
            if type(thing) is int:
                for more in (1, -1):
                    changed = exchanged(certificate, place, lambda worth: worth + more)
                    self.assertIs(accepts(claim, changed), False)

    def test_wrong(self):
        for wrong in NO_FUNCTIONS:
            for call in (lambda: certify_parting(wrong, n), lambda: certify_parting(n, wrong), lambda: certify_parting(wrong, None)):
                with self.assertRaises(NotAFunction) as held:
                    call()
                self.assertIs(held.exception.value, wrong)


class RelationsTest(Certifying):
    def check(self, *given):
        found = certify_relations(*given)
        rows = relations(*given)
        self.assertIs(type(found), tuple)
        rules = tuple(plain_rule(function) for function in given)
        self.assertEqual([claim for claim, _ in found], [("relation", rules, row) for row in rows])
        for pair, row in zip(found, rows):
            self.check_pair(pair)
            claim, certificate = pair
            self.assertTrue(is_span(certificate, rules, None))
            self.assertEqual(certificate[0], new_numbers(*given))
            for at in range(len(row)):
                for more in (1, -1):
                    other = (*row[:at], row[at] + more, *row[at + 1:])
                    self.assertIs(accepts(("relation", rules, other), certificate), not given[at])
            for at in (*range(30), *GREAT):
                self.assertEqual(sum(factor * function(at) for factor, function in zip(row, given)), 0)
        self.assertEqual(certify_relations(*given), found)
        return len(found)

    def test_relations(self):
        self.assertEqual(self.check(n), 0)
        self.assertEqual(self.check(constant(0)), 1)
        self.assertEqual(self.check(constant(0), constant(0)), 2)
        self.assertEqual(self.check(n, n), 1)
        self.assertEqual(self.check(constant(2), n, n // 2 * 4 + n % 2 * 2, n * 3 - 5), 2)
        self.assertEqual(self.check(n, n // 2, n % 2, n * n, sums(n), constant(1)), 2)
        self.assertEqual(self.check(n * 2, n * 3, n * 5, n * 7, n * 11, n * 13), 5)
        chance = random.Random(465)
        for _ in range(20):
            parts = [chance.choice(FUNCTIONS[:15]) for _ in range(2)]
            further = [parts[0] * chance.randint(-3, 3) + parts[1] * chance.randint(-3, 3) for _ in range(2)]
            self.assertGreaterEqual(self.check(*parts, *further), 2)

    def test_ranks_of_64_together(self):
        great = [single(2 ** 15 - 1 - at) for at in range(4)]
        self.assertEqual(self.check(*great), 0)
        self.assertEqual(self.check(great[0], great[1], great[0] * 2, constant(0), great[3]), 2)
        for row in ((*great, constant(1)), (*great, n, n), (*great[:3], single(2 ** 14 - 1), n)):
            with self.assertRaises(TooMany):
                certify_relations(*row)

    def test_wrong(self):
        for wrong in ((), (n,) * 7, (None,) * 7):
            with self.assertRaises(InvalidValues) as held:
                certify_relations(*wrong)
            self.assertIs(held.exception.index, None)
        great = [single(2 ** 15 - 1)] * 4
        for wrong in NO_FUNCTIONS:
            for row in ((wrong,), (n, wrong), (*great, n, wrong), (wrong, None, n)):
                with self.assertRaises(NotAFunction) as held:
                    certify_relations(*row)
                self.assertIs(held.exception.value, wrong)


class RestsTest(Certifying):
    def check(self, function, modulus):
        found = certify_rests(function, modulus)
        self.check_pair(found)
        (word, value, same, rests), certificate = found
        self.assertEqual((word, same), ("rests", modulus))
        self.assertEqual(rests, tuple(sorted(
            rest for rest in range(modulus) if where(function, modulus, rest))))
        plain = Plain(value)
        for at in (*range(60), 2 ** 64 - 1, 10 ** 60):
            self.assertEqual(plain(at), function(at))
        self.assertEqual(certify_rests(f=function, modulus=modulus), found)
        for rest in range(modulus):
            if rest in rests:
                fewer = tuple(each for each in rests if each != rest)
                self.assertIs(accepts(("rests", value, modulus, fewer), certificate), False)
            else:
                more = tuple(sorted((*rests, rest)))
                self.assertIs(accepts(("rests", value, modulus, more), certificate), True)
        for at in range(0, len(certificate), 1 + len(certificate) // 20):
            self.assertIs(accepts(found[0], certificate[:at] + certificate[at + 1:]), False)
        return len(certificate)

    def test_rests(self):
        for function in FUNCTIONS:
            for modulus in (2, 3, 5, 12):
                try:
                    self.check(function, modulus)
                except TooManyStates:
                    self.assertGreater(function.rank, 2)
        self.assertGreater(self.check(n * n, 4), 1)
        self.assertEqual(certify_rests(n * n, 4)[0][2:], (4, (0, 1)))
        self.assertEqual(certify_rests(n * 2, 4)[0][2:], (4, (0, 2)))
        self.assertEqual(certify_rests(constant(-1), 12)[0][2:], (12, (11,)))

    def test_as_many_rows_as_different_parts(self):
        # Rows that tell the same rests for all n do not stand there twice, though the lines have common divisors.
        for times in (1, 2, 3, 4, 6, 12):
            function = counted_signs(4)[0] * times
            for modulus in (5, 7, 11):
                self.assertEqual(self.check(function, modulus), 16)
            self.assertEqual(self.check(function * 12, 12), 1)
            self.assertEqual(self.check(function * 12, 4), 1)
        odd = counted_signs(4)[0] * 2 + 1
        self.assertEqual(self.check(odd, 2), 1)

    def test_just_at_and_above_1024(self):
        function, _ = signs(10)
        self.assertEqual(self.check(function, 12), 1024)
        self.assertEqual(len(certify_rests(function * 4, 8)[1]), 1)
        half = function // 2
        with self.assertRaises(TooManyStates):
            certify_rests(half, 12)
        with self.assertRaises(TooManyStates):
            where(half, 12, 0)
        self.assertEqual(len(certify_rests(half, 2)[1]), 1)
        self.assertEqual(self.check(turning(14, 4)[0], 2), 1001)
        for lines, chosen in ((13, 5), (15, 4)):
            for call in (lambda f: certify_rests(f, 2), lambda f: where(f, 2, 1)):
                with self.assertRaises(TooManyStates) as held:
                    call(turning(lines, chosen)[0])
                self.assertIs(type(held.exception), TooManyStates)

    def test_just_where_where_has_too_many(self):
        chance = random.Random(466)
        yes = no = 0
        for _ in range(60):
            function = rule(*made_rule(chance, chance.randint(3, 6), chance.choice((2, 10 ** 6)))) * chance.choice((1, 2, 3))
            modulus = chance.randint(2, 12)
            try:
                where(function, modulus, 0)
                fits = True
            except TooManyStates:
                fits = False
            try:
                self.assertLessEqual(len(certify_rests(function, modulus)[1]), 1024)
                self.assertTrue(fits)
                yes += 1
            except TooManyStates:
                self.assertFalse(fits)
                no += 1
        self.assertGreater(yes, 10)
        self.assertGreater(no, 10)

    def test_wrong(self):
        many = turning(15, 4)[0]
        for wrong in NO_FUNCTIONS:
            for modulus in (2, 1, None):
                with self.assertRaises(NotAFunction) as held:
                    certify_rests(wrong, modulus)
                self.assertIs(held.exception.value, wrong)
        for wrong in (0, 1, -1, -2, 13, 10 ** 300, *NO_NUMBERS):
            for function in (n, many):
                with self.assertRaises(InvalidNumber) as held:
                    certify_rests(function, wrong)
                self.assertIs(held.exception.number, wrong)

    def test_great(self):
        chance = random.Random(467)
        for many, size in ((8, 10 ** 10), (5, 10 ** 11), (3, 10 ** 11)):
            function = rule(*made_rule(chance, many, size))
            self.check(function, 2)


if __name__ == "__main__":
    unittest.main()
