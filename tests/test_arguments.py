"""Wrong arguments of rule, costs, from_high and from_low: which error is raised, with which field, and which first."""

import random
import unittest

from halverules.costs import costs
from halverules.errors import InvalidNumber, InvalidRule, InvalidValues, NotAFunction, NotFitting, TooMany
from halverules.halved import number, single
from halverules.loops import from_high, from_low
from halverules.rules import rule
from halverules.sums import sums

n = number()
GREAT = 10 ** 12
NO_ENTRIES = [True, False, None, "1", "", b"1", (), (1,), [], [1], {}, 1 + 0j, object(), int, n, GREAT + 1, -GREAT - 1,
              10 ** 319]
NO_TUPLES = [None, True, 0, 1, -1, "", "12", b"12", {}, {1: 2}, {1}, frozenset(), object(), int, n, range(2)]


def replaced(row, at, thing):
    return (*row[:at], thing, *row[at + 1:])


class Raising(unittest.TestCase):
    def raised(self, error, field, call, *arguments):
        """The call raises just this error, with this value in its only field, and leaves its arguments."""
        copies = [list(argument) if isinstance(argument, (tuple, list)) else None for argument in arguments]
        with self.assertRaises(error) as held:
            call(*arguments)
        self.assertIs(type(held.exception), error)
        (worth,) = vars(held.exception).values()
        if isinstance(field, int) or field is None:
            self.assertEqual((worth, type(worth)), (field, type(field)))
        else:
            self.assertIs(worth, field)
        for argument, copy in zip(arguments, copies):
            if copy is not None:
                self.assertEqual(list(argument), copy)


def wrong_rows(rows, chance):
    """Wrong rows with the index that the error has, made from right ones."""
    many = len(rows)
    yield list(rows), None
    yield (), None
    yield rows[1:], None
    yield (*rows, rows[0]), None
    for thing in NO_TUPLES:
        yield thing, None
        yield replaced(rows, chance.randrange(many), thing), "row"
    for at in range(many):
        yield replaced(rows, at, list(rows[at])), at
        yield replaced(rows, at, rows[at][1:]), at
        yield replaced(rows, at, (*rows[at], 0)), at
        for thing in NO_ENTRIES:
            yield replaced(rows, at, replaced(rows[at], chance.randrange(many), thing)), at
    for _ in range(5):
        at, later = sorted(chance.choices(range(many), k=2))
        both = replaced(replaced(rows, later, None), at, replaced(rows[at], chance.randrange(many), GREAT + 1))
        yield both, at


def wrong_values(values, chance):
    """Wrong rows of integers with the index that the error has."""
    many = len(values)
    yield list(values), None
    yield (), None
    yield values[1:], None
    yield (*values, 0), None
    yield (*values, None), None
    for thing in NO_TUPLES:
        yield thing, None
    for at in range(many):
        for thing in NO_ENTRIES:
            yield replaced(values, at, thing), at
    for _ in range(5):
        at, later = sorted(chance.choices(range(many), k=2))
        yield replaced(replaced(values, later, None), at, True), at


def faults(arguments, chance):
    """For each argument the wrong things in its place, each with its error and its field."""
    kinds = {"rows": (wrong_rows, InvalidRule), "values": (wrong_values, InvalidValues)}
    found = []
    for value, kind in arguments:
        make, error = kinds[kind]
        here = []
        for thing, index in make(value, chance):
            if index == "row":
                index = next(at for at, row in enumerate(thing) if row is not value[at])
            here.append((thing, error, index))
        found.append(here)
    return found


class RowsTest(Raising):
    def check_all(self, call, arguments, chance, ahead=()):
        """One thing exchanged, or two in different arguments: the first argument with a fault tells the error."""
        right = [value for value, _ in arguments]
        found = faults(arguments, chance)
        for place, wrong in enumerate(found):
            for thing, error, index in wrong:
                if (place, index) in ahead:
                    continue
                self.raised(error, index, call, *replaced(tuple(right), place, thing))
        for _ in range(60):
            first, second = sorted(chance.sample(range(len(right)), 2))
            thing, error, index = chance.choice(found[first])
            later, _, _ = chance.choice(found[second])
            if (first, index) in ahead:
                continue
            both = replaced(replaced(tuple(right), first, thing), second, later)
            self.raised(error, index, call, *both)

    def test_rule(self):
        chance = random.Random(1)
        for many in (1, 2, 3):
            square = tuple(tuple(int(at == to) for to in range(many)) for at in range(many))
            values = tuple(range(1, many + 1))
            arguments = [(square, "rows"), (square, "rows"), (values, "values"), (values, "values")]
            # Another number of rows is no fault of `even`, but one row fewer or more makes its rows wrong, too.
            self.check_all(rule, arguments, chance, ahead={(0, None)})

    def test_number_of_rows_of_even(self):
        right = tuple(tuple(int(at == to) for to in range(16)) for at in range(16))
        values = (1,) * 16
        self.assertEqual(rule(right, right, values, values)(5), 16)
        wide = tuple((*row, 0) for row in right)
        for wrong in ((), (*wide, wide[0]), tuple((0,) * 17 for _ in range(17)), ((),) * 17, (None,) * 17, (None,) * 100):
            self.raised(InvalidRule, None, rule, wrong, right, values, values)
        self.raised(InvalidRule, 0, rule, right[1:], right[1:], values[1:], values[1:])
        self.raised(InvalidRule, 0, rule, ((),), ((),), (), ())
        for thing in [list(right), *NO_TUPLES]:
            self.raised(InvalidRule, None, rule, thing, right, values, values)
        self.raised(InvalidRule, None, rule, ((1,),), ((1,), (1,)), (1,), (1,))

    def test_just_at_the_greatest(self):
        for great in (GREAT, -GREAT):
            self.assertEqual(rule(((0, great), (0, 1)), ((great, great), (great, 0)), (0, 0), (great, great))(1), 0)
            self.assertEqual(rule(((1,),), ((great,),), (great,), (great,))(1), great ** 3)
        for great in (GREAT + 1, -GREAT - 1):
            self.raised(InvalidRule, 0, rule, ((0, great), (0, 1)), ((1, 0), (0, 1)), (0, 0), (1, 1))
            self.raised(InvalidRule, 0, rule, ((1,),), ((great,),), (1,), (1,))
            self.raised(InvalidValues, 0, rule, ((1,),), ((1,),), (great,), (1,))
            self.raised(InvalidValues, 0, rule, ((1,),), ((1,),), (1,), (great,))

    def test_not_fitting_comes_last(self):
        wrong = ((2,),)
        self.raised(NotFitting, 0, rule, wrong, ((1,),), (1,), (1,))
        self.raised(InvalidRule, 0, rule, wrong, ((True,),), (1,), (1,))
        self.raised(InvalidValues, 0, rule, wrong, ((1,),), (None,), (1,))
        self.raised(InvalidValues, None, rule, wrong, ((1,),), (1,), (1, 1))
        self.raised(InvalidValues, 0, rule, wrong, ((1,),), (1,), ("1",))

    def test_one_more_or_less_in_a_row(self):
        rows = ((1, 0, 0), (0, 1, 0), (0, 0, 1))
        firsts = (1, -2, 3)
        for at in range(3):
            for to in range(3):
                for more in (1, -1):
                    wrong = replaced(rows, at, replaced(rows[at], to, rows[at][to] + more))
                    self.raised(NotFitting, at, rule, wrong, rows, firsts, firsts)
                    rule(rows, wrong, firsts, firsts)

    def test_loops(self):
        chance = random.Random(2)
        for call in (from_high, from_low):
            for many in (1, 2, 6):
                square = tuple(tuple(chance.randint(-2, 2) for _ in range(many)) for _ in range(many))
                values = tuple(chance.randint(-3, 3) for _ in range(many))
                arguments = [(values, "values"), (square, "rows"), (square, "rows"), (values, "values")]
                # With another length `start` is right, and it is `zero` that does not go with it.
                self.check_all(call, arguments, chance, ahead={(0, None)})

    def test_numbers_of_variables(self):
        for call in (from_high, from_low):
            for many in (1, 6):
                square = ((1,) * many,) * many
                self.assertEqual(call((1,) * many, square, square, (1,) * many)(0), many)
            square = ((1,) * 7,) * 7
            self.raised(InvalidValues, None, call, (1,) * 7, square, square, (1,) * 7)
            self.raised(InvalidValues, None, call, (None,) * 7, square, square, (1,) * 7)
            self.raised(InvalidValues, None, call, (), (), (), ())
            self.raised(InvalidRule, None, call, (1,), ((1, 1), (1, 1)), ((1,),), (1,))
            self.raised(InvalidRule, None, call, (1,), ((1,),), ((1, 1), (1, 1)), (1,))
            self.raised(InvalidValues, None, call, (1,), ((1,),), ((1,),), (1, 1))
            for thing in [[1], *NO_TUPLES]:
                self.raised(InvalidValues, None, call, thing, ((1,),), ((1,),), (1,))
            for great in (GREAT, -GREAT):
                self.assertEqual(call((great,), ((great,),), ((great,),), (great,))(1), great ** 3)

    def test_loops_have_no_not_fitting(self):
        self.assertEqual(from_high((1,), ((2,),), ((3,),), (1,))(6), 18)


class CostsTest(Raising):
    def test_factors(self):
        for low in (-1000, 1000, 0, 1):
            for high in (-1000, 1000, 0, 1):
                self.assertEqual(costs(low, high, 1, (1, 1))(2), low + high + 1)
        for wrong in (-1001, 1001, 10 ** 319, -10 ** 319, *NO_ENTRIES):
            self.raised(InvalidNumber, wrong, costs, wrong, 1, 1, (1, 1))
            self.raised(InvalidNumber, wrong, costs, 1, wrong, 1, (1, 1))

    def test_extra(self):
        for extra in (n, single(3), 5, 0, -10 ** 319, 10 ** 319):
            costs(1, 1, extra, (0, 1))
        for wrong in (True, False, None, "5", "", b"", (), (1,), [], {}, object(), int, costs, 1 + 0j):
            self.raised(NotAFunction, wrong, costs, 1, 1, wrong, (1, 1))

    def test_values(self):
        for many in range(2, 9):
            self.assertEqual(costs(0, 0, 9, (4,) * many)(many - 1), 4)
            self.assertEqual(costs(0, 0, 9, (4,) * many)(many), 9)
        for wrong in ((), (1,), (1,) * 9, (None,), (None,) * 9, [1, 1], *NO_TUPLES):
            self.raised(InvalidValues, None, costs, 1, 1, 1, wrong)
        for many in (2, 8):
            for at in range(many):
                for thing in NO_ENTRIES:
                    self.raised(InvalidValues, at, costs, 1, 1, 1, replaced((1,) * many, at, thing))
        self.raised(InvalidValues, 0, costs, 1, 1, 1, (None, None))
        for great in (GREAT, -GREAT):
            self.assertEqual(costs(1000, -1000, 0, (great, great))(1), great)

    def test_first_fault(self):
        wrong = (1001, -1001, True, (1,))
        right = (1, 1, 1, (1, 1))
        errors = (InvalidNumber, InvalidNumber, NotAFunction, InvalidValues)
        for pick in range(1, 16):
            arguments = [wrong[at] if pick >> at & 1 else right[at] for at in range(4)]
            first = next(at for at in range(4) if pick >> at & 1)
            self.raised(errors[first], None if first == 3 else wrong[first], costs, *arguments)

    def test_too_many_comes_last(self):
        great = single(2 ** 15 - 1)
        with self.assertRaises(TooMany):
            costs(1, 1, great, (1, 1))
        self.raised(InvalidValues, 1, costs, 1, 1, great, (1, True))
        self.raised(InvalidNumber, 1001, costs, 1, 1001, great, (1, 1))


class SumsTest(Raising):
    def test_no_function(self):
        for wrong in (5, 0, True, None, "n", (), (n,), [n], {}, object(), number, int):
            self.raised(NotAFunction, wrong, sums, wrong)
            with self.assertRaises(NotAFunction):
                sums(f=wrong)


if __name__ == "__main__":
    unittest.main()
