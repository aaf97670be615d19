"""What the document promises over the whole program: functions that one module made are used by all others."""

import random
import unittest

from halverules.along import along, index, powers
from halverules.certificates import certify_parting, certify_relations, certify_rests, plain_rule
from halverules.checker import accepts
from halverules.console import Console
from halverules.costs import costs
from halverules.desks import Desk
from halverules.errors import Refused, TooMany, TooManyStates
from halverules.halved import constant, number, single
from halverules.learning import told_back
from halverules.loops import from_high, from_low
from halverules.numbers import Numbers, where
from halverules.recurrences import solved
from halverules.relations import new_numbers, parting, relations
from halverules.rules import rule
from halverules.sums import sums
from halverules.texts import least_text, read_least
from halverules.values import all_values, at_value, bounded
from making import counted_signs, made_rule, turning
from reference import GREAT, told

n = number()


def made():
    """Functions from all modules that make them, of few lines."""
    chance = random.Random(491)
    console = Console()
    console.say("a = number")
    console.say("b = sums a")
    console.say("c = b mod 3")
    desk = Desk()
    desk["kept"] = n // 3
    functions = {
        "constant": constant(7), "zero": constant(0), "number": n, "single": single(6), "operators": n * n - n // 2,
        "rests": n % 3, "thinned": n[3, 2] // 2, "rule": rule(*made_rule(chance, 3)), "other rule": rule(*made_rule(chance, 2)),
        "costs": costs(1, 1, n - 1, (0, 0)), "high": from_high((0, 1), ((1, 0), (1, 1)), ((1, 1), (0, 1)), (1, -1)),
        "low": from_low((0, 1), ((1, 0), (0, 2)), ((1, 1), (0, 2)), (1, 2)), "sums": sums(n % 2),
        "told back": told_back((0, 1, 1, 2, 1, 2, 2, 3, 1, 2, 2, 3, 2, 3, 3, 4)), "indicator": where(n, 3, 1).indicator(),
        "few": Numbers.told(0, 3, 5).indicator(), "read": read_least(least_text(n * 3 - 1)),
        "solved": solved("s = 0 1\ns even = 1 s[0]\ns odd = 1 s[0] + 1 s[1]")[0][1],
        "at value": at_value(n % 2 + n // 2 % 2, 1).indicator(), "desk": desk["kept"], "console": console.desk["c"],
        "signs": counted_signs(3)[0], "places": turning(4, 1)[0]}
    return functions


FUNCTIONS = made()


class ProgramTest(unittest.TestCase):
    def pairs(self, many, seed):
        chance = random.Random(seed)
        for _ in range(many):
            yield chance, chance.choice(list(FUNCTIONS.values())), chance.choice(list(FUNCTIONS.values()))

    def tried(self, call):
        try:
            return call()
        except (TooMany, TooManyStates):
            return None

    def test_exactness(self):
        for function in FUNCTIONS.values():
            for at in (*range(30), *GREAT):
                self.assertIs(type(function(at)), int)

    def test_the_same_in_all_ways(self):
        """Whatever tells whether two functions are the same tells the same of them."""
        for name, first in FUNCTIONS.items():
            for other, second in FUNCTIONS.items():
                same = first == second
                place = parting(first, second)
                self.assertEqual(place is None, same)
                self.assertEqual(least_text(first) == least_text(second), same)
                self.assertEqual(told(first) == told(second), same)
                self.assertEqual(plain_rule(first) == plain_rule(second), same)
                claim, certificate = certify_parting(first, second)
                self.assertEqual(claim[0], "same" if same else "parting")
                self.assertTrue(accepts(claim, certificate))
                self.assertEqual([first(at) == second(at) for at in range(60)].count(False) == 0, place is None or place >= 60)
                if place is not None:
                    self.assertEqual(claim[3], place)
                    self.assertIn(place, new_numbers(first, second))
                    self.assertEqual(bounded(first - second, 0, 0) if place < 4096 else place, place)
                desk = Desk()
                desk.do_all(("set", "a", first), ("set", "b", second))
                if same:
                    desk.equate(((1, "a"), (-1, "b")))
                else:
                    with self.assertRaises(Refused) as held:
                        desk.equate(((1, "a"), (-1, "b")))
                    self.assertEqual(held.exception.__cause__.number, place)
                rows = relations(first, second)
                self.assertEqual((1, -1) in rows or (-1, 1) in rows or not first and not second, same)

    def test_made_again_from_all_that_tells_them(self):
        for function in FUNCTIONS.values():
            self.assertEqual(read_least(least_text(function)), function)
            if 1 <= function.rank <= 4:
                values = tuple(function(at) for at in range(4 ** function.rank))
                self.assertEqual(told_back(values), function)
            even, odd, firsts, line = plain_rule(function)
            if function.rank and all(bottom == 1 for rows in (even, odd) for row in rows for _, bottom in row):
                whole = [tuple(tuple(top for top, _ in row) for row in rows) for rows in (even, odd)]
                self.assertEqual(rule(*whole, firsts, tuple(top for top, _ in line)), function)
            rests = self.tried(lambda: certify_rests(function, 3))
            if rests is not None:
                self.assertTrue(accepts(*rests))
                claimed = rests[0][1]
                again = rule(*[tuple(tuple(top for top, _ in row) for row in rows) for rows in claimed[:2]], claimed[2],
                             tuple(top for top, _ in claimed[3])) if function.rank else function
                self.assertEqual(again, function)

    def test_halves(self):
        for function in FUNCTIONS.values():
            even, odd = function[2, 0], function[2, 1]
            whole = even // 2 * (1 - n % 2) + odd // 2 * (n % 2)
            self.assertEqual(whole, function)
            self.assertEqual(sums(function)[2, 0], sums(even + odd))
            self.assertEqual((sums(function) << 1) - sums(function), function)
            self.assertEqual(costs(0, 0, function, (function(0), function(1))), function)

    def test_along(self):
        for function in FUNCTIONS.values():
            for start in (0, 1, 5, 1000):
                row = along(function, start)
                self.assertEqual([row(k) for k in range(20)], [function(2 ** k * start) for k in range(20)])
                self.assertEqual(along(function[2, 0], start), row << 1)
                self.assertEqual(along(function * 3 + 1, start), row * 3 + 1)
                self.assertEqual(along(function // 2, start) << 1, row)
        self.assertEqual(along(n, 1), powers(2))
        self.assertEqual(along(FUNCTIONS["costs"], 1), (index() - 1) * powers(2) + 1)

    def test_rests_and_values(self):
        for function in FUNCTIONS.values():
            for modulus in (2, 5):
                try:
                    sets = [where(function, modulus, rest) for rest in range(modulus)]
                except TooManyStates:
                    continue
                self.assertEqual([sum(m in each for each in sets) for m in (*range(50), *GREAT)], [1] * (50 + len(GREAT)))
                self.assertEqual(sum(each.count(10 ** 300) for each in sets), 10 ** 300)
                for rest, each in enumerate(sets):
                    self.assertEqual([m in each for m in GREAT], [function(m) % modulus == rest for m in GREAT])
                    if each:
                        self.assertEqual(function(each.least) % modulus, rest)
                claim, certificate = certify_rests(function, modulus)
                self.assertEqual(claim[3], tuple(rest for rest, each in enumerate(sets) if each))
                rests = self.tried(lambda: function % modulus)
                if rests is not None:
                    self.assertEqual(all_values(rests), claim[3])
                    for rest in range(modulus):
                        self.assertEqual(at_value(rests, rest), sets[rest])
                    self.assertIsNone(bounded(rests, 0, modulus - 1))

    def test_operators_on_drawn_functions(self):
        for chance, first, second in self.pairs(80, 492):
            a, b = chance.randint(-3, 3), chance.randint(-3, 3)
            k, shift = chance.randint(1, 8), chance.randint(0, 64)
            for call, value in (
                    (lambda: first * a + second * b, lambda m: first(m) * a + second(m) * b),
                    (lambda: first * second, lambda m: first(m) * second(m)), (lambda: first // k, lambda m: first(m // k)),
                    (lambda: first << shift, lambda m: first(m + shift)), (lambda: sums(second) - first, None),
                    (lambda: first >> shift, lambda m: first(m - shift) if m >= shift else 0),
                    (lambda: first[k, shift % 64], lambda m: first(m * k + shift % 64))):
                found = self.tried(call)
                if found is None:
                    continue
                self.assertEqual(read_least(least_text(found)), found)
                self.assertTrue(accepts(*certify_parting(found, first)))
                if value is not None:
                    self.assertEqual([found(m) for m in (*range(80), 10 ** 200)], [value(m) for m in (*range(80), 10 ** 200)])
                    values = tuple(value(m) for m in range(100))
                    self.assertTrue(accepts(("told", values, plain_rule(found)), ()))
                    self.assertFalse(accepts(("told", (*values[:99], values[99] + 1), plain_rule(found)), ()))

    def test_relations(self):
        for chance, first, second in self.pairs(60, 493):
            third = first * chance.randint(-3, 3) + second * chance.randint(-3, 3)
            given = (first, second, third, n)
            rows = relations(*given)
            certified = certify_relations(*given)
            self.assertEqual([claim[2] for claim, _ in certified], list(rows))
            desk = Desk()
            for name, function in zip("abcd", given):
                desk[name] = function
            for row, pair in zip(rows, certified):
                self.assertTrue(accepts(*pair))
                desk.equate(tuple(zip(row, "abcd")))
            self.assertEqual(len(desk.equations), len(rows))

    def test_console_and_desk(self):
        """The same deeds by lines and by operators."""
        chance = random.Random(494)
        for _ in range(15):
            console, desk = Console(), Desk()
            for name in "abc":
                function = chance.choice(list(FUNCTIONS.values()))
                console.desk[name] = desk[name] = function
            for _ in range(25):
                a, b, c = [chance.choice("abc") for _ in range(3)]
                k = chance.randint(1, 8)
                line, call = chance.choice((
                    (f"{a} = {b} + {c}", lambda: desk[b] + desk[c]), (f"{a} = {b} - {c}", lambda: desk[b] - desk[c]),
                    (f"{a} = {b} * {c}", lambda: desk[b] * desk[c]), (f"{a} = {b} // {k}", lambda: desk[b] // k),
                    (f"{a} = {b} << {k}", lambda: desk[b] << k), (f"{a} = {b} >> {k}", lambda: desk[b] >> k),
                    (f"{a} = {b}[{k}, {k}]", lambda: desk[b][k, k]), (f"{a} = {b} mod {k + 1}", lambda: desk[b] % (k + 1)),
                    (f"{a} = sums {b}", lambda: sums(desk[b])), (f"{a} = constant {k}", lambda: constant(k))))
                try:
                    function = call()
                except TooMany:
                    with self.assertRaises(TooMany):
                        console.say(line)
                    continue
                desk[a] = function
                self.assertEqual(console.say(line), f"rank {function.rank}")
                self.assertEqual([console.desk[name] for name in "abc"], [desk[name] for name in "abc"])
                place = parting(desk[a], desk[b])
                self.assertEqual(console.say(f"{a} and {b}"), "same" if place is None else f"apart at {place}")
            other = Desk()
            other.do_all(*console.desk.history)
            self.assertEqual([other[name] for name in other.names], [desk[name] for name in desk.names])

    def test_nothing_is_changed(self):
        before = {name: (told(function), least_text(function)) for name, function in FUNCTIONS.items()}
        for chance, first, second in self.pairs(20, 495):
            for call in (lambda: first + second, lambda: first * second, lambda: sums(first), lambda: parting(first, second),
                         lambda: certify_parting(first, second), lambda: along(first, 3), lambda: where(first, 2, 1),
                         lambda: all_values(first), lambda: bounded(first, 0, 10 ** 9), lambda: certify_rests(second, 2),
                         lambda: relations(first, second), lambda: least_text(first), lambda: first << 3, lambda: first % 2):
                self.tried(call)
        self.assertEqual({name: (told(function), least_text(function)) for name, function in FUNCTIONS.items()}, before)


if __name__ == "__main__":
    unittest.main()
