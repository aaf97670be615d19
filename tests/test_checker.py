"""The checker: right claims with right certificates, and whatever else."""

import random
import unittest
from fractions import Fraction

from halverules.along import powers
from halverules.certificates import certify_parting, certify_relations, certify_rests, plain_rule
from halverules.checker import accepts
from halverules.halved import constant, number, single
from halverules.numbers import Numbers
from halverules.rules import rule
from making import made_rule

n = number()
ONE, ZERO = (1, 1), (0, 1)
CONSTANT = (((ONE,),), ((ONE,),), (3,), (ONE,))
NUMBER = plain_rule(n)
NOTHING = ((), (), (), ())


def pair(worth):
    worth = Fraction(worth)
    return worth.numerator, worth.denominator


def row(*worths):
    return tuple(pair(worth) for worth in worths)


class Plain:
    """A plain rule by fractions, number by number."""

    def __init__(self, value):
        even, odd, firsts, told = value
        self.halves = [[[Fraction(*each) for each in line] for line in lines] for lines in (even, odd)]
        self.told = [Fraction(*each) for each in told]
        self.known = {0: [Fraction(first) for first in firsts]}

    def lines(self, at):
        chain = []
        while at not in self.known:
            chain.append(at)
            at //= 2
        for place in reversed(chain):
            values = self.known[place // 2]
            self.known[place] = [sum((a * b for a, b in zip(line, values)), Fraction(0)) for line in self.halves[place % 2]]
        return self.known[chain[0] if chain else at]

    def __call__(self, at):
        return sum((a * b for a, b in zip(self.told, self.lines(at))), Fraction(0))


def is_span(value, rules, end):
    """Whether it is a span, looked at as the document tells it, for things of the right kinds."""
    numbers, rows = value
    plain = [Plain(each) for each in rules]

    def values(at):
        return [worth for each in plain for worth in each.lines(at)]

    if len(numbers) > 200 or len(rows) != len(numbers) or list(numbers) != sorted(set(numbers)):
        return False
    if 0 not in numbers and end != 0 and any(values(0)):
        return False
    for place, halves in zip(numbers, rows):
        for digit, fractions in enumerate(halves):
            to = 2 * place + digit
            if fractions is None:
                if end is None or to < end:
                    return False
                continue
            if len(fractions) != len(numbers) or any(each != ZERO for each, at in zip(fractions, numbers) if at > to):
                return False
            made = [sum((Fraction(*each) * values(at)[line] for each, at in zip(fractions, numbers)), Fraction(0))
                    for line in range(len(values(0)))]
            if made != values(to):
                return False
    return True


def replaced(value, at, thing):
    return (*value[:at], thing, *value[at + 1:])


def exchanged(value, places, change):
    """The nested tuples with what stands at this place changed."""
    if not places:
        return change(value)
    return replaced(value, places[0], exchanged(value[places[0]], places[1:], change))


def all_places(value, before=()):
    yield before
    if isinstance(value, tuple):
        for at, thing in enumerate(value):
            yield from all_places(thing, (*before, at))


def nested(depth, core=()):
    for _ in range(depth):
        core = (core,)
    return core


class Checking(unittest.TestCase):
    def answer(self, claim, certificate):
        found = accepts(claim, certificate)
        self.assertIs(type(found), bool)
        return found

    def accepted(self, claim, certificate):
        self.assertIs(accepts(claim, certificate), True)

    def denied(self, claim, certificate):
        self.assertIs(accepts(claim, certificate), False)


SAME_N = ((0, 1), ((row(1, 0), row(0, 1)), (row(-1, 2), row(-2, 3))))


def examples():
    """Right claims with right certificates, of all forms."""
    twice = rule(((1, 0), (0, 1)), ((1, 1), (0, 1)), (0, 1), (1, 0))
    found = [certify_parting(n, n + n - n), certify_parting(n, n * n), certify_parting(n % 3, n % 2), certify_parting(constant(3), n),
             certify_rests(n, 3), certify_rests(n * n, 4), certify_rests(twice, 2)]
    found += certify_relations(n, n * 2, constant(1))
    found += certify_relations(constant(2), n, n // 2 * 4 + n % 2 * 2, n * 3 - 5)
    found += [(("apart", NUMBER, CONSTANT, 0), ()), (("apart", NUMBER, plain_rule(n * n), 10 ** 300), ()),
              (("told", (0, 1, 2, 3), NUMBER), ()), (("told", (), NOTHING), ()), (("told", (0,) * 50, NOTHING), ()),
              (("same", NOTHING, NOTHING), ((), ())), (("rests", NOTHING, 2, (0,)), ((),))]
    return found


EXAMPLES = examples()


class FormsTest(Checking):
    def test_right_ones(self):
        words = set()
        for claim, certificate in EXAMPLES:
            self.accepted(claim, certificate)
            self.assertIs(accepts(claim=claim, certificate=certificate), True)
            words.add(claim[0])
        self.assertEqual(words, {"same", "apart", "parting", "relation", "rests", "told"})

    def test_each_thing_exchanged(self):
        changes = [lambda thing: True, lambda thing: None, lambda thing: "same", lambda thing: [], lambda thing: {},
                   lambda thing: object(), lambda thing: n, lambda thing: nested(70), lambda thing: b"", lambda thing: 1 + 0j,
                   lambda thing: list(thing) if isinstance(thing, tuple) else [thing],
                   lambda thing: (*thing, thing) if isinstance(thing, tuple) else (thing,),
                   lambda thing: (*thing, 0) if isinstance(thing, tuple) else str(thing),
                   lambda thing: thing[1:] if isinstance(thing, tuple) and thing else 10 ** 319 + 1]
        # What may stand in more ways than one is looked at elsewhere; here no change can be right.
        asked = 0
        for claim, certificate in EXAMPLES[:12]:
            whole = (claim, certificate)
            places = list(all_places(whole))
            for at, place in enumerate(places):
                for turn, change in enumerate(changes):
                    if len(places) > 60 and (at * 5 + turn) % 7:
                        continue
                    asked += 1
                    changed = exchanged(whole, place, change)
                    if not place:
                        self.answer(changed, changed)
                        continue
                    if changed == whole:
                        continue
                    found = self.answer(*changed)
                    if turn < 10:
                        self.assertIs(found, False if turn != 1 or not self.may_be_none(claim, place) else found, (changed, place))
        self.assertGreater(asked, 3000)

    def may_be_none(self, claim, place):
        """Whether it is a row of a certificate, which may be left out."""
        return place[0] == 1 and len(place) == 4 and claim[0] == "parting"

    def test_true_is_not_1(self):
        for claim, certificate in EXAMPLES:
            whole = (claim, certificate)
            places = [place for place in all_places(whole)]
            for place in places[:400]:
                thing = whole
                for at in place:
                    thing = thing[at]
                if thing in (0, 1) and type(thing) is int:
                    self.denied(*exchanged(whole, place, bool))

    def test_integers_exchanged(self):
        """One number more or less: only what is still so is accepted."""
        for claim, certificate in EXAMPLES:
            whole = (claim, certificate)
            for place in list(all_places(whole))[:300]:
                thing = whole
                for at in place:
                    thing = thing[at]
                if type(thing) is int:
                    for more in (1, -1, 10 ** 12):
                        changed = exchanged(whole, place, lambda worth: worth + more)
                        if self.answer(*changed):
                            self.check_true(changed[0])

    def check_true(self, claim):
        """What is told is so at the first numbers and at some great ones."""
        numbers = (*range(130), 2 ** 40, 3 ** 50, 10 ** 60 + 1)
        if claim[0] == "told":
            self.assertEqual([Plain(claim[2])(at) for at in range(len(claim[1]))], list(claim[1]))
        elif claim[0] == "rests":
            self.assertEqual([at for at in numbers if Plain(claim[1])(at) % claim[2] not in claim[3]], [])
        elif claim[0] == "relation":
            plain = [Plain(each) for each in claim[1]]
            self.assertEqual([at for at in numbers if sum(f * p(at) for f, p in zip(claim[2], plain))], [])
        else:
            first, second = Plain(claim[1]), Plain(claim[2])
            if claim[0] == "same":
                self.assertEqual([at for at in numbers if first(at) != second(at)], [])
            else:
                self.assertNotEqual(first(claim[3]), second(claim[3]))
                if claim[0] == "parting":
                    self.assertEqual([at for at in range(claim[3]) if first(at) != second(at)], [])

    def test_any_values(self):
        things = [None, True, False, 0, 1, "", "same", "told", b"same", (), ("same",), ("told",), ("told", (), NOTHING), [], {}, n,
                  Numbers.told(1), powers(2), object(), int, nested(70), nested(70, "same"), ("same", nested(68), nested(68)),
                  ("relation", nested(69), nested(69)), ("rests", nested(60), 2, (0,)), ("told", nested(69), nested(69)),
                  ("apart", nested(60), NUMBER, 0), 1 + 0j, frozenset(), {1}, ("x",) * 1000, (("same",),), lambda: 0, accepts]
        for claim in things:
            for certificate in things:
                self.assertIs(accepts(claim, certificate), claim == ("told", (), NOTHING) and certificate == ())

    def test_words(self):
        for claim, certificate in EXAMPLES:
            for word in ("same", "apart", "parting", "relation", "rests", "told", "Same", "", "same ", "sames", 0, None, b"same"):
                if word != claim[0]:
                    self.denied((word, *claim[1:]), certificate) if (claim[0], word) != ("apart", "parting") else 0
            self.denied(claim[0], certificate)
            self.denied(claim[:-1], certificate)
            self.denied((*claim, claim[-1]), certificate)
            self.denied((*claim, ()), certificate)
            self.denied(claim, None)
            self.denied(claim, list(certificate))
            self.denied(list(claim), certificate)
            self.denied(claim, (*certificate, ()))


class RulesTest(Checking):
    def check_rule(self, value, fine=True):
        """Whether it is taken for a plain rule, in all places where one may stand."""
        self.assertIs(accepts(("told", (), value), ()), fine)
        if not fine:
            self.denied(("apart", value, CONSTANT, 5), ())
            self.denied(("apart", CONSTANT, value, 5), ())
            self.denied(("relation", (value,), (0,)), ((), ()))
            self.denied(("rests", value, 2, (0, 1)), ((),))
            self.denied(("same", value, value), ((), ()))

    def unit(self, many):
        """A rule of so many lines that stay what they are at first."""
        lines = tuple(tuple(ONE if at == to else ZERO for to in range(many)) for at in range(many))
        return lines, lines, tuple(range(many)), (ONE,) * many

    def test_numbers_of_lines(self):
        for many in (0, 1, 2, 3, 16, 17, 99, 100):
            self.check_rule(self.unit(many))
            self.accepted(("told", (sum(range(many)),) * 10, self.unit(many)), ())
            self.denied(("told", (sum(range(many)),) * 9 + (-1,), self.unit(many)), ())
        for many in (101, 102, 200):
            self.check_rule(self.unit(many), False)
        even, odd, firsts, told = self.unit(3)
        for wrong in ((even[1:], odd, firsts, told), (even, odd[1:], firsts, told), (even, odd, firsts[1:], told),
                      (even, odd, firsts, told[1:]), ((*even, even[0]), odd, firsts, told), (even, (*odd, odd[0]), firsts, told),
                      (even, odd, (*firsts, 0), told), (even, odd, firsts, (*told, ZERO)), ((), odd, firsts, told),
                      (even, odd, firsts), (even, odd, firsts, told, told), [even, odd, firsts, told], (list(even), odd, firsts, told),
                      (even, list(odd), firsts, told), (even, odd, list(firsts), told), (even, odd, firsts, list(told)),
                      ((even[0], even[1], even[2][:2]), odd, firsts, told), (even, (odd[0], odd[1], (*odd[2], ZERO)), firsts, told),
                      ((even[0], list(even[1]), even[2]), odd, firsts, told), (even, odd, (0, True, 2), told), (even, odd, (0, "1", 2), told),
                      (even, odd, (ZERO, ONE, (2, 1)), told), (even, odd, firsts, (1, 1, 1)), None, (), n):
            self.check_rule(wrong, False)

    def test_fractions(self):
        even, odd, firsts, told = self.unit(2)
        for fraction in ((0, 1), (1, 1), (-1, 1), (3, 2), (-3, 2), (10 ** 319, 1), (1, 10 ** 319), (7, 10)):
            self.check_rule((even, ((fraction, ZERO), (ZERO, fraction)), firsts, told))
            self.check_rule((even, odd, firsts, (fraction, fraction)))
            # Where the first value is 0 any fraction of it fits.
            self.check_rule((((fraction, ZERO), even[1]), odd, firsts, told))
        for wrong in ((0, 2), (2, 2), (2, 4), (4, 2), (-2, 4), (6, 3), (1, 0), (0, 0), (1, -1), (-1, -1), (1, -2), (0, -1), (5, 5),
                      (1,), (1, 1, 1), [1, 1], (True, 1), (1, True), (None, 1), ("1", 1), (1, 1 + 0j), 1, 0, None, "1/1", (),
                      (Fraction(1), 1), Fraction(1), ((1, 1), 1), (10 ** 300, 10 ** 300), n):
            self.check_rule((even, ((wrong, ZERO), (ZERO, ONE)), firsts, told), False)
            self.check_rule((even, ((ONE, ZERO), (ZERO, wrong)), firsts, told), False)
            self.check_rule((even, odd, firsts, (ONE, wrong)), False)
            self.check_rule((((wrong, ZERO), even[1]), odd, firsts, told), False)

    def test_fitting(self):
        for first in (1, -5, 10 ** 300):
            for fraction in ((0, 1), (2, 1), (1, 2), (-1, 1)):
                self.check_rule((((fraction,),), ((ONE,),), (first,), (ONE,)), False)
            self.check_rule((((ONE,),), (((7, 3),),), (first,), ((5, 3),)))
        # Halves of two lines that add up to the first values.
        half = ((1, 2), (1, 2))
        self.check_rule(((half, half), (half, half), (4, 4), half))
        self.check_rule(((half, half), (half, half), (4, 5), half), False)
        self.check_rule((((ONE, ZERO), ((3, 2), ZERO)), ((ONE, ZERO), (ONE, ZERO)), (4, 6), half))
        self.check_rule((((ONE, ZERO), ((3, 2), ZERO)), ((ONE, ZERO), (ONE, ZERO)), (4, 7), half), False)

    def test_told(self):
        halves = ((((1, 1), (0, 1)), ((0, 1), (1, 1))), (((1, 2), (1, 2)), ((0, 1), (1, 1))), (0, 1), ((1, 1), (0, 1)))
        plain = Plain(halves)
        self.assertEqual([plain(at) for at in range(3)], [0, Fraction(1, 2), Fraction(1, 2)])
        self.accepted(("told", (), halves), ())
        self.accepted(("told", (0,), halves), ())
        for wrong in ((0, 0), (0, 1), (1,), (0, 1, 1), (True,), (0, (1, 2)), [0], (None,), ("0",), 0, None, "0"):
            self.denied(("told", wrong, halves), ())
        doubled = (*halves[:3], ((2 ** 20, 1), (0, 1)))
        values = tuple(int(Plain(doubled)(at)) for at in range(2 ** 11))
        self.accepted(("told", values, doubled), ())
        for at in (0, 1, 500, 2047):
            for more in (1, -1):
                self.denied(("told", replaced(values, at, values[at] + more), doubled), ())
        self.accepted(("told", tuple(range(3000)), NUMBER), ())
        self.denied(("told", (*range(3000), 3001), NUMBER), ())
        for wrong in ((()), ((), ())):
            self.assertIs(accepts(("told", (0, 1), NUMBER), wrong), wrong == ())
        for wrong in (None, 0, [], "", ((),), {}):
            self.denied(("told", (0, 1), NUMBER), wrong)

    def test_apart(self):
        square = plain_rule(n * n)
        for place in (2, 3, 7, 10 ** 9, 2 ** 500, 10 ** 300 - 1, 10 ** 300):
            self.accepted(("apart", NUMBER, square, place), ())
            self.accepted(("apart", square, NUMBER, place), ())
            self.denied(("apart", square, square, place), ())
        for place in (0, 1, -1, 10 ** 300 + 1, 10 ** 319, -10 ** 300, True, None, "2", (2,), (2, 1), Fraction(2), n, object()):
            self.denied(("apart", NUMBER, square, place), ())
        for wrong in (None, 0, [], "", ((),), {}, ((), ()), SAME_N, (2,)):
            self.denied(("apart", NUMBER, square, 2), wrong)
        third = (((ONE,),), ((ONE,),), (1,), ((1, 3),))
        self.accepted(("apart", third, CONSTANT, 10 ** 100), ())
        self.denied(("apart", (*third[:2], (9,), third[3]), CONSTANT, 10 ** 100), ())


class SpansTest(Checking):
    def test_right_and_wrong_ones(self):
        self.accepted(("same", NUMBER, NUMBER), SAME_N)
        numbers, rows = SAME_N
        for wrong in ((numbers,), (rows,), (numbers, rows, ()), [numbers, rows], (list(numbers), rows), (numbers, list(rows)),
                      (numbers, rows[:1]), (numbers, (*rows, rows[0])), ((0,), rows), (numbers, (rows[0], list(rows[1]))),
                      (numbers, (rows[0], rows[1][:1])), (numbers, (rows[0], (*rows[1], rows[1][0]))), (numbers, (rows[1], rows[0])),
                      ((1, 0), rows), ((0, 0), rows), ((0, True), rows), ((0, -1), rows), ((-1, 0), rows), ((0, 2), rows), ((1, 2), rows),
                      ((0, "1"), rows), ((0, None), rows), ((0, (1, 1)), rows), ((), ()), ((0,), (rows[0],)), ((1,), (rows[1],)),
                      (numbers, ((None, rows[0][1]), rows[1])), (numbers, (rows[0], (rows[1][0], None))), (numbers, None), (None, rows)):
            self.denied(("same", NUMBER, NUMBER), wrong)

    def test_one_fraction_changed(self):
        for claim, certificate in EXAMPLES:
            if claim[0] in ("same", "parting", "relation"):
                rules = claim[1] if claim[0] == "relation" else claim[1:3]
                end = claim[3] if claim[0] == "parting" else None
                self.assertTrue(is_span(certificate, rules, end))
                for place in all_places(certificate):
                    if len(place) == 4 and place[0] == 1:
                        for change in (lambda f: pair(Fraction(*f) + 1), lambda f: pair(Fraction(*f) - Fraction(1, 3)),
                                       lambda f: (2 * f[0], 2 * f[1]), lambda f: (-f[0], -f[1]), lambda f: (f[0], 0)):
                            self.denied(claim, exchanged(certificate, place, change))

    def test_numbers_that_are_not_needed(self):
        # All numbers up to 3, told by 0 and 1 alone, or by others.
        zero = (0, 0)
        rows = ((row(1, 0, 0, 0), row(0, 1, 0, 0)), (row(0, 0, 1, 0), row(0, 0, 0, 1)),
                (row(-3, 4, 0, 0), row(-4, 5, 0, 0)), (row(0, -4, 5, 0), row(0, 0, -4, 5)))
        self.accepted(("same", NUMBER, NUMBER), ((0, 1, 2, 3), rows))
        self.accepted(("same", NUMBER, NUMBER), ((0, 1, 2, 3), (rows[0], rows[1], rows[2], (row(-5, 6, *zero), row(0, 0, -4, 5)))))
        # Each row alone is exchanged for one that tells the same by greater numbers, or the wrong one.
        self.denied(("same", NUMBER, NUMBER), ((0, 1, 2, 3), ((row(1, 0, 0, 0), row(0, 0, 2, -1)), *rows[1:])))
        self.denied(("same", NUMBER, NUMBER), ((0, 1, 2, 3), (rows[0], (row(0, 0, 1, 0), row(0, 1, 0, 1)), *rows[2:])))
        self.denied(("same", NUMBER, NUMBER), ((0, 1, 2, 3), (rows[0], (row(0, 0, 0, 1), row(0, 0, 0, 1)), *rows[2:])))
        # A number that is left out although others are told by it.
        self.denied(("same", NUMBER, NUMBER), ((0, 1, 3), ((row(1, 0, 0), row(0, 1, 0)), (row(-1, 2, 0), row(0, 0, 2)), rows[3][:2])))
        self.accepted(("same", NUMBER, NUMBER), ((0, 1, 3), (
            (row(1, 0, 0), row(0, 1, 0)), (row(-1, 2, 0), row(0, 0, 1)), (row(-5, 6, 0), row(-6, 7, 0)))))
        self.accepted(("same", NUMBER, NUMBER), ((0, 1, 100), (
            (row(1, 0, 0), row(0, 1, 0)), (row(-1, 2, 0), row(-2, 3, 0)), (row(-199, 200, 0), row(-200, 201, 0)))))

    def test_greater_numbers(self):
        # 3 by 0 and 4 is right, but 4 is greater.
        rows = ((row(1, 0, 0), row(0, 1, 0)), (row(-1, 2, 0), row(-2, 3, 0)), (row(-7, 8, 0), row(-8, 9, 0)))
        self.accepted(("same", NUMBER, NUMBER), ((0, 1, 4), rows))
        wrong = row(Fraction(1, 4), 0, Fraction(3, 4))
        self.assertEqual(Fraction(3, 4) * 4, 3)
        self.denied(("same", NUMBER, NUMBER), ((0, 1, 4), (rows[0], (row(-1, 2, 0), wrong), rows[2])))
        self.accepted(("same", NUMBER, NUMBER), ((0, 1, 4), (*rows[:2], (row(-7, 8, 0), row(Fraction(-5, 4), 0, Fraction(9, 4))))))
        self.accepted(("same", NUMBER, NUMBER), ((0, 1, 8), (*rows[:2], (row(-15, 16, 0), row(-16, 17, 0)))))

    def test_200_numbers(self):
        for many, fine in ((199, True), (200, True), (201, False), (300, False)):
            numbers = tuple(range(many))
            rows = tuple(tuple(row(1 - to, to, *([0] * (many - 2))) for to in (2 * at, 2 * at + 1)) for at in numbers)
            self.assertIs(accepts(("same", NUMBER, NUMBER), (numbers, rows)), fine)
        numbers = tuple(range(199))
        rows = tuple(tuple(row(1 - to, to, *([0] * 197)) for to in (2 * at, 2 * at + 1)) for at in numbers)
        self.denied(("same", NUMBER, NUMBER), (numbers, (*rows[:198], (rows[198][0], rows[198][0]))))

    def test_without_0(self):
        # Lines that are 0 at 0 need it not.
        flat = (((ZERO,),), ((ZERO,),), (0,), (ONE,))
        line = (((ZERO,),), ((ONE,),), (0,), (ONE,))
        self.accepted(("same", flat, line), ((), ()))
        self.accepted(("same", flat, line), ((0,), ((row(0), row(0)),)))
        self.accepted(("same", flat, line), ((5,), ((row(0), row(0)),)))
        self.accepted(("same", flat, line), ((5,), ((row(0), row(7)),)))
        self.denied(("same", flat, line), ((5,), ((row(0), None),)))
        self.denied(("same", CONSTANT, CONSTANT), ((), ()))
        self.denied(("same", CONSTANT, CONSTANT), ((1,), ((row(1), row(1)),)))
        self.accepted(("same", CONSTANT, CONSTANT), ((0,), ((row(1), row(1)),)))
        # A line of which nothing is told still counts.
        self.denied(("same", NOTHING, (*CONSTANT[:3], row(0))), ((), ()))
        self.accepted(("same", NOTHING, (*CONSTANT[:3], row(0))), ((0,), ((row(1), row(1)),)))

    def test_same_values_at_the_numbers(self):
        double = (*NUMBER[:3], row(2, 0))
        self.denied(("same", NUMBER, double), SAME_N)
        self.accepted(("same", double, double), SAME_N)
        self.accepted(("relation", (NUMBER, double), (2, -1)), SAME_N)
        self.denied(("relation", (NUMBER, double), (2, -2)), SAME_N)
        self.denied(("relation", (NUMBER, double), (-1, 2)), SAME_N)

    def test_parting(self):
        square = plain_rule(n * n)
        claim, certificate = certify_parting(n, n * n)
        self.assertEqual(claim, ("parting", NUMBER, square, 2))
        self.accepted(claim, certificate)
        for place in (0, 1, 3, 4, -1, 10 ** 300, True, None, "2"):
            self.denied((*claim[:3], place), certificate)
        numbers, rows = certificate
        self.assertEqual(rows[1], (None, None))
        # Rows that are not needed may stand there if they are right.
        square_3 = plain_rule(n * n + single(3))
        self.denied(claim, (numbers, (rows[0], (row(-1, 2), None))))
        self.denied(claim, (numbers, (rows[0], (None, row(0, 0)))))
        self.denied(claim, (numbers, (rows[0], (row(1, 0), row(1, 0)))))
        self.denied(claim, (numbers, ((None, rows[0][1]), rows[1])))
        self.denied(claim, (numbers, ((rows[0][0], None), rows[1])))
        self.denied(claim, ((), ()))
        claim, certificate = certify_parting(n, n + single(5))
        self.assertEqual(claim[3], 5)
        self.accepted(claim, certificate)
        self.accepted(("parting", NUMBER, square_3, 2), (numbers, rows))
        numbers, rows = certificate
        for at, (even, odd) in enumerate(rows):
            for digit, each in enumerate((even, odd)):
                if each is not None:
                    changed = replaced(rows, at, replaced(rows[at], digit, None))
                    self.assertIs(accepts(claim, (numbers, changed)), 2 * numbers[at] + digit >= 5)
        # Numbers must be less than the place.
        for further in (5, 6, 100):
            wide = (*numbers, further)
            longer = tuple(tuple(None if each is None else (*each, ZERO) for each in pair) for pair in rows)
            self.denied(claim, (wide, (*longer, (None, None))))
            self.assertTrue(is_span((wide, (*longer, (None, None))), claim[1:3], 5))

    def test_parting_at_0(self):
        for claim in (("parting", CONSTANT, NUMBER, 0), ("parting", NUMBER, CONSTANT, 0), ("parting", NOTHING, CONSTANT, 0)):
            self.accepted(claim, ((), ()))
            self.assertEqual(certify_parting(constant(3), n)[1], ((), ()))
            for wrong in ((), ((0,), ((None, None),)), ((1,), ((None, None),)), ((), ((),)), ([], []), None):
                self.denied(claim, wrong)
        self.denied(("parting", NUMBER, NUMBER, 0), ((), ()))
        self.denied(("parting", NOTHING, NOTHING, 0), ((), ()))

    def test_parting_that_is_not_the_least(self):
        # Between them and the place there is another number at which they differ.
        first, second = plain_rule(n), plain_rule(n + single(3) + single(6))
        claim, (numbers, rows) = certify_parting(n, n + single(3) + single(6))
        self.assertEqual(claim[3], 3)
        for place in (6,):
            self.accepted(("apart", first, second, place), ())
            self.denied(("parting", first, second, place), (numbers, rows))
            further = certify_parting(n, n + single(6))[1]
            self.denied(("parting", first, second, place), further)

    def test_relation(self):
        right = (("relation", (NUMBER, NUMBER, NUMBER), (1, 2, -3)), SAME_N)
        self.accepted(*right)
        for many in range(1, 9):
            factors = (1,) * (many - 1) + (1 - many,)
            self.assertIs(accepts(("relation", (NUMBER,) * many, factors), SAME_N), 1 <= many <= 6)
            self.denied(("relation", (NUMBER,) * many, (*factors, 0)), SAME_N)
            self.denied(("relation", (NUMBER,) * many, factors[1:]), SAME_N)
        self.denied(("relation", (), ()), ((), ()))
        self.denied(("relation", (), ()), SAME_N)
        for wrong in ((1, 2, -2), (1, 2, -3, 0), (True, 2, -3), (1, 2, "-3"), [1, 2, -3], (1, 2, (-3, 1)), 0, None, (None,) * 3):
            self.denied(("relation", (NUMBER,) * 3, wrong), SAME_N)
        self.accepted(("relation", (NUMBER,) * 3, (0, 0, 0)), SAME_N)
        self.accepted(("relation", (NUMBER,) * 2, (10 ** 300, -10 ** 300)), SAME_N)
        self.denied(("relation", [NUMBER] * 3, (1, 2, -3)), SAME_N)
        self.denied(("relation", NUMBER, (1, 2, -3, 0)), SAME_N)
        halves = (*NUMBER[:3], row(Fraction(1, 2), 0))
        thirds = (*NUMBER[:3], row(Fraction(1, 3), 0))
        self.accepted(("relation", (halves, thirds), (2, -3)), SAME_N)
        self.denied(("relation", (halves, thirds), (3, -2)), SAME_N)


class RestsTest(Checking):
    def test_right_and_wrong_ones(self):
        claim, certificate = certify_rests(n, 3)
        self.accepted(claim, certificate)
        self.assertEqual(claim[2:], (3, (0, 1, 2)))
        word, told, modulus, rests = claim
        for wrong in ((0, 1), (1, 2), (0,), (), (0, 1, 2, 3), (0, 1, 1, 2), (0, 2, 1), (2, 1, 0), [0, 1, 2], (0, 1, True), (False, 1, 2),
                      (0, 1, -1), (-1, 0, 1, 2), (0, 1, 5), None, 3, ("0", 1, 2), ((0,), 1, 2)):
            self.denied((word, told, modulus, wrong), certificate)
        for wrong in (1, 0, -1, -3, 13, 14, 10 ** 300, True, None, "3", (3,), (3, 1)):
            self.denied((word, told, wrong, (0, 1, 2)), certificate)
            self.denied((word, told, wrong, (0,)), certificate)
        for at in range(len(certificate)):
            self.denied(claim, certificate[:at] + certificate[at + 1:])
            self.denied(claim, certificate[:at] + certificate[at:at + 1] + certificate[at:])
            if at:
                order = list(certificate)
                order[at - 1], order[at] = order[at], order[at - 1]
                self.denied(claim, tuple(order))
            for wrong in (None, (), certificate[at][1:], (*certificate[at], 0), list(certificate[at]), (3,) * 2, (-1, 0),
                          (True,) * 2, ("0", 0), 0):
                self.denied(claim, replaced(certificate, at, wrong))

    def test_more_rests_and_more_rows_than_needed(self):
        even = (((2, 1),),), (((2, 1),),), (0,), ((1, 1),)
        for rests in ((0,), (0, 1), (0, 3), (0, 1, 2, 3)):
            self.accepted(("rests", even, 4, rests), ((0,), (1,), (2,)))
            self.accepted(("rests", even, 4, rests), ((0,), (1,), (2,), (3,)))
            self.denied(("rests", even, 4, rests), ((0,), (1,)))
            self.denied(("rests", even, 4, rests), ((1,), (2,)))
            self.denied(("rests", even, 4, rests), ((0,), (2,), (3,)))
        self.denied(("rests", even, 4, (1,)), ((0,), (1,), (2,)))
        # A row that is not needed counts, too.
        odd = (((ONE,),), ((ONE,),), (2,), (ONE,))
        self.accepted(("rests", odd, 4, (2,)), ((1,),))
        self.denied(("rests", odd, 4, (2,)), ((0,), (1,)))
        self.accepted(("rests", odd, 4, (0, 2)), ((0,), (1,)))
        self.accepted(("rests", odd, 4, (2,)), ((1,), (3,)))

    def test_moduli(self):
        for modulus in range(2, 13):
            claim, certificate = certify_rests(n, modulus)
            self.assertEqual(claim[2:], (modulus, tuple(range(modulus))))
            self.accepted(claim, certificate)
        one = (((ONE,),), ((ONE,),), (0,), (ONE,))
        for modulus in (0, 1, 13, 100):
            self.denied(("rests", one, modulus, (0,)), ((0,),))
            self.denied(("rests", one, modulus, (0,)), ((1,),))
        self.denied(("rests", one, 2, (0,)), ())
        self.denied(("rests", one, 2, (0, 2)), ((1,),))

    def test_fractions(self):
        for told in ((((ONE,),), ((ONE,),), (4,), ((1, 2),)), (((ONE,),), (((1, 2),),), (4,), (ONE,))):
            self.denied(("rests", told, 2, (0, 1)), ((0,), (1,)))
        zero = ((((1, 2),),), ((ONE,),), (0,), (ONE,))
        self.accepted(("told", (0, 0, 0), zero), ())
        self.denied(("rests", zero, 2, (0, 1)), ((0,), (1,)))

    def test_1024_rows(self):
        # All rows of ten rests by 2, and one row more of another modulus.
        unit = tuple(tuple(ONE if at == to else ZERO for to in range(10)) for at in range(10))
        told = (unit, unit, (0,) * 10, (ONE,) * 10)
        rows = tuple(tuple(at >> place & 1 for place in reversed(range(10))) for at in range(1024))
        self.accepted(("rests", told, 2, (0,)), rows)
        unit = tuple(tuple(ONE if at == to else ZERO for to in range(11)) for at in range(11))
        told = (unit, unit, (0,) * 11, (ONE,) * 11)
        rows = tuple(tuple(at >> place & 1 for place in reversed(range(11))) for at in range(2048))
        self.accepted(("rests", told, 2, (0,)), rows[-1024:])
        self.denied(("rests", told, 2, (0,)), rows[-1025:])
        self.denied(("rests", told, 2, (0,)), rows)
        self.denied(("rests", told, 2, (1,)), rows[-1024:])
        self.denied(("rests", told, 2, (0,)), rows[:1024])

    def test_great_integers(self):
        great = ((((1, 1), (0, 1)), ((0, 1), (1, 1))), (((10 ** 300 + 3, 1), (-10 ** 300, 1)), ((0, 1), (10 ** 319, 1))),
                 (10 ** 300, -7), ((-10 ** 200, 1), (1, 1)))
        rests = {Plain(great)(at) % 7 for at in range(300)}
        every = tuple((a, b) for a in range(7) for b in range(7))
        self.accepted(("rests", great, 7, tuple(range(7))), every)
        self.assertLessEqual(rests, set(range(7)))
        self.denied(("rests", great, 7, tuple(range(6))), every)


class DrawnTest(Checking):
    """What is accepted is so, whoever wrote the certificate."""

    def drawn_rule(self, chance):
        many = chance.randint(0, 2)
        firsts = tuple(chance.choice((0, 0, 1, 2)) for _ in range(many))
        worths = (0, 0, 1, 1, 2, -1, Fraction(1, 2))
        even = tuple(tuple(pair(chance.choice(worths)) for _ in range(many)) for _ in range(many))
        odd = tuple(tuple(pair(chance.choice(worths)) for _ in range(many)) for _ in range(many))
        return even, odd, firsts, tuple(pair(chance.choice(worths)) for _ in range(many))

    def fits(self, value):
        plain = Plain(value)
        return [sum((a * b for a, b in zip(line, value[2])), Fraction(0)) for line in plain.halves[0]] == list(value[2])

    def test_drawn_spans(self):
        chance = random.Random(451)
        yes = no = 0
        while yes < 150 or no < 3000:
            rules = [self.drawn_rule(chance) for _ in range(2)]
            if not all(map(self.fits, rules)):
                if chance.random() < 0.01:
                    self.denied(("same", *rules), ((0,), ((row(1), row(1)),)))
                continue
            if chance.random() < 0.3:
                rules[1] = rules[0]
            many = chance.randint(0, 2)
            numbers = tuple(sorted(chance.sample(range(4), many)))
            if chance.random() < 0.7 and numbers:
                numbers = (0, *[at for at in numbers if at > 0])
            many = len(numbers)
            rows = tuple(tuple(
                None if chance.random() < 0.15 else tuple(pair(chance.choice((0, 0, 1, 1, 2, -1))) for _ in range(many))
                for _ in range(2)) for _ in range(many))
            end = chance.choice((None, None, 0, 1, 2, 3, 5))
            claim = ("same", *rules) if end is None else ("parting", *rules, end)
            first, second = map(Plain, rules)
            fine = is_span((numbers, rows), rules, end) and all(first(at) == second(at) for at in numbers)
            if end is not None:
                fine = fine and first(end) != second(end) and all(at < end for at in numbers)
            found = self.answer(claim, (numbers, rows))
            self.assertIs(found, fine, (claim, numbers, rows))
            if found:
                yes += 1
                FormsTest.check_true(self, claim)
            else:
                no += 1

    def test_drawn_rests(self):
        chance = random.Random(452)
        yes = 0
        for _ in range(3000):
            many = chance.randint(0, 2)
            modulus = chance.choice((2, 2, 3))
            firsts = tuple(chance.randint(0, 2) for _ in range(many))
            even = tuple(tuple((int(at == to), 1) for to in range(many)) for at in range(many))
            odd = tuple(tuple((chance.randint(-1, 2), 1) for _ in range(many)) for _ in range(many))
            told = tuple((chance.randint(-1, 2), 1) for _ in range(many))
            rests = tuple(sorted(chance.sample(range(modulus), chance.randint(0, modulus))))
            every = [()]
            for _ in range(many):
                every = [(*each, rest) for each in every for rest in range(modulus)]
            rows = tuple(sorted(chance.sample(every, chance.randint(0, len(every)))))
            claim = ("rests", (even, odd, firsts, told), modulus, rests)
            if self.answer(claim, rows):
                yes += 1
                FormsTest.check_true(self, claim)
        self.assertGreater(yes, 100)

    def test_rules_of_integers(self):
        chance = random.Random(453)
        for many in (1, 2, 3, 4):
            even, odd, firsts, told = made_rule(chance, many)
            value = tuple(tuple(tuple((worth, 1) for worth in line) for line in lines) for lines in (even, odd)) + (
                firsts, tuple((worth, 1) for worth in told))
            function = rule(even, odd, firsts, told)
            values = tuple(function(at) for at in range(200))
            self.accepted(("told", values, value), ())
            self.accepted(("told", values, plain_rule(function)), ())
            self.denied(("told", (*values, function(200) + 1), value), ())


if __name__ == "__main__":
    unittest.main()
