"""Texts of least rules: least_text, and read_least of texts and of what is none."""

import random
import re
import unittest
from fractions import Fraction

from halverules.along import powers
from halverules.costs import costs
from halverules.errors import InvalidText, NotAFunction, TooMany
from halverules.halved import Halved, constant, number, single
from halverules.loops import from_high
from halverules.rules import rule
from halverules.sums import sums
from halverules.texts import least_text, read_least
from making import made_rule, mixed, reordered, with_further_line
from reference import GREAT, Space, part

n = number()
TERM = r"(-?[1-9][0-9]*(?:/[1-9][0-9]*)?) (f\[[0-9]+, [0-9]+\])"
SUM = rf"(0|{TERM}(?: \+ {TERM})*)"
LINE = re.compile(rf"(f\[([0-9]+), ([0-9]+)\]) = (0|-?[1-9][0-9]*); {SUM}; {SUM}")


def written(function):
    """The text, from what the function tells of itself."""
    labels = [f"f[{2 ** k}, {r}]" for k, r in function.basis]
    rows = ["rank " + str(len(labels))]
    for label, first, halves in zip(labels, function.firsts, function.equations):
        sides = []
        for row in halves:
            shown = [str(Fraction(*pair)) + " " + other for pair, other in zip(row, labels) if pair != (0, 1)]
            sides.append(" + ".join(shown) or "0")
        rows.append("; ".join([f"{label} = {first}", *sides]))
    return "\n".join(rows)


class PlainText:
    """What a text tells, if it is written like one: labels, first values and rows of fractions."""

    def __init__(self, text):
        head, *rows = text.split("\n")
        found = [LINE.fullmatch(row) for row in rows]
        self.fine = head == f"rank {len(rows)}" and len(rows) <= 16 and None not in found
        if not self.fine:
            return
        self.labels = [match[1] for match in found]
        self.places = [(int(match[2]), int(match[3])) for match in found]
        self.firsts = [int(match[4]) for match in found]
        sides = [row.split("; ")[1:] for row in rows]
        self.fine = self.labels == [f"f[{a}, {b}]" for a, b in self.places] and self.places == sorted(set(self.places))
        self.rows = [[self.row(side) for side in pair] for pair in sides]
        self.fine = self.fine and all(row is not None for pair in self.rows for row in pair)

    def row(self, side):
        row = {}
        before = -1
        for factor, label in re.findall(TERM, side):
            if label not in self.labels or self.labels.index(label) <= before or str(Fraction(factor)) != factor:
                return None
            before = self.labels.index(label)
            row[before] = Fraction(factor)
        return row

    def next(self, values, digit):
        return [sum((factor * values[at] for at, factor in pair[digit].items()), Fraction(0)) for pair in self.rows]

    def table(self, many):
        """The values of all lines at the first numbers."""
        table = [[Fraction(first) for first in self.firsts]]
        for at in range(1, many):
            table.append(self.next(table[at // 2], at % 2))
        return table[:many]

    def is_least(self):
        """Whether it tells a function with integer values by its least rule, as far as the first values show."""
        if not self.fine or self.next(self.firsts, 0) != self.firsts:
            return False
        if not self.labels:
            return True
        table = self.table(160)
        if any(worth.denominator != 1 for values in table for worth in values):
            return False
        space = Space()
        if [space.takes([int(worth) for worth in values]) for values in table].count(True) != len(self.labels):
            return False
        return self.is_basic()

    def is_basic(self):
        """Whether the parts are those that are no combinations of parts before them."""
        if self.places[0] != (1, 0):
            return False
        known = {place: at for at, place in enumerate(self.places)}
        seen = {(1, 0)}
        for (step, start), pair in zip(self.places, self.rows):
            for digit, row in enumerate(pair):
                half = (2 * step, start + step * digit)
                if half in known:
                    seen.add(half)
                    if row != {known[half]: 1}:
                        return False
                elif any(self.places[at] > half for at in row):
                    return False
        return seen == set(self.places)


def functions():
    """Functions of many kinds, with texts of one to sixteen lines."""
    chance = random.Random(401)
    made = [
        constant(0), constant(1), constant(-7), constant(10 ** 300), n, -n, n - n, n * n, n ** 3, single(0), single(12),
        n % 7, n // 3, n[3, 5], n[7, 63], n << 9, sums(n // 2), n * n * 5 - 10 ** 30,
        costs(1, 1, n - 1, (0, 0)), costs(2, -3, n, (0, 1, 5)), from_high((1, 2), ((1, 1), (0, 3)), ((0, 1), (1, 0)), (3, -1))]
    for many in range(1, 17):
        made.append(rule(*made_rule(chance, many)))
    for size in (10, 10 ** 6, 10 ** 10):
        made.append(rule(*made_rule(chance, 4, size)))
        made.append(rule(*made_rule(chance, 3, size)) * rule(*made_rule(chance, 2, size)))
    made.append(single(2 ** 15 - 1))
    return made


FUNCTIONS = functions()


class LeastTextTest(unittest.TestCase):
    def test_text_and_back(self):
        ranks = set()
        fractions = 0
        for function in FUNCTIONS:
            text = least_text(function)
            self.assertIs(type(text), str)
            self.assertEqual(text, written(function))
            back = read_least(text)
            self.assertIs(type(back), Halved)
            self.assertEqual(back, function)
            self.assertEqual(least_text(back), text)
            self.assertEqual([back(at) for at in (*range(40), *GREAT)], [function(at) for at in (*range(40), *GREAT)])
            if function != single(2 ** 15 - 1):
                self.assertTrue(PlainText(text).is_least(), text)
            ranks.add(function.rank)
            fractions += "/" in text
        self.assertEqual(ranks, set(range(17)))
        self.assertGreater(fractions, 15)

    def test_to_the_letter(self):
        self.assertEqual(least_text(constant(0)), "rank 0")
        self.assertEqual(least_text(constant(-4)), "rank 1\nf[1, 0] = -4; 1 f[1, 0]; 1 f[1, 0]")
        self.assertEqual(least_text(f=single(0)), "rank 1\nf[1, 0] = 1; 1 f[1, 0]; 0")
        self.assertEqual(
            least_text(single(2)),
            "rank 3\nf[1, 0] = 0; 1 f[2, 0]; 0\nf[2, 0] = 0; 0; 1 f[4, 2]\nf[4, 2] = 1; 1 f[4, 2]; 0")
        self.assertEqual(
            least_text(n + 5),
            "rank 2\nf[1, 0] = 5; 1 f[2, 0]; 2/5 f[1, 0] + 4/5 f[2, 0]\n"
            "f[2, 0] = 5; -2 f[1, 0] + 3 f[2, 0]; -6/5 f[1, 0] + 13/5 f[2, 0]")

    def test_the_same_function_made_in_other_ways(self):
        chance = random.Random(402)
        for many in (2, 3, 4, 6):
            arguments = made_rule(chance, many)
            text = least_text(rule(*arguments))
            order = list(range(many))
            chance.shuffle(order)
            self.assertEqual(least_text(rule(*reordered(arguments, order))), text)
            self.assertEqual(least_text(rule(*mixed(arguments, 0, many - 1, 2))), text)
            self.assertEqual(least_text(rule(*with_further_line(arguments, chance))), text)
            self.assertEqual(least_text(rule(*arguments) + n - n), text)
        self.assertEqual(least_text(n // 2 * 2 + n % 2), least_text(n))
        self.assertEqual(least_text(sums(constant(1))), least_text(n))

    def test_no_function(self):
        for wrong in (None, True, 5, "rank 0", (), (n,), [n], {}, object(), Halved, powers(2)):
            with self.assertRaises(NotAFunction) as held:
                least_text(wrong)
            self.assertIs(held.exception.value, wrong)


class ReadTest(unittest.TestCase):
    def refused(self, text):
        with self.assertRaises(InvalidText) as held:
            read_least(text)
        self.assertIs(type(held.exception), InvalidText)
        self.assertIs(held.exception.text, text)

    def check(self, text):
        """It is taken exactly if a look at its words and first values says so. Whether it was."""
        plain = PlainText(text)
        if not plain.is_least():
            self.refused(text)
            return False
        function = read_least(text)
        self.assertEqual(least_text(function), text)
        self.assertEqual([function(at) for at in range(64)], [sum(values[:1]) for values in plain.table(64)])
        return True

    def test_other_kinds(self):
        for wrong in (None, True, False, 0, 5, b"rank 0", (), ("rank 0",), ["rank 0"], {}, object(), str, n, 1 + 0j):
            self.refused(wrong)
        for wrong in ("", " ", "\n", "0", "rank", "rank ", "rank 0\n", "\nrank 0", " rank 0", "rank 0 ", "Rank 0", "rank -0",
                      "rank 00", "rank 1", "rank 1\n", "rank 0\n0", "f[1, 0] = 0; 0; 0", "rank 1\nf[1, 0] = 0; 0; 0"):
            self.refused(wrong)
        self.assertEqual(read_least(text="rank 0"), constant(0))

    def test_one_sign_more_or_less(self):
        taken = refused = 0
        for function in FUNCTIONS[:20]:
            text = least_text(function)
            for at in range(len(text) + 1):
                for sign in (" ", "\n", "0", "-", "+", "/", "1", ";", ",", "f"):
                    if len(text) < 100 or (at * 7 + ord(sign)) % 17 == 0:
                        other = text[:at] + sign + text[at:]
                        taken += self.check(other)
                        refused += 1
                if at < len(text):
                    taken += self.check(text[:at] + text[at + 1:])
                    refused += 1
        self.assertGreater(refused, 4000)
        self.assertLess(taken, refused / 10)
        self.assertGreater(taken, 10)

    def test_another_sign(self):
        for function in FUNCTIONS[:20]:
            text = least_text(function)
            for at in range(0, len(text), 1 if len(text) < 100 else 13):
                for sign in "02-f ;\n":
                    self.check(text[:at] + sign + text[at + 1:])

    def test_lines(self):
        for function in FUNCTIONS:
            head, *rows = least_text(function).split("\n")
            for at in range(len(rows)):
                self.refused("\n".join([head, *rows[:at], *rows[at + 1:]]))
                # Without any line it is the text of 0.
                if len(rows) > 1:
                    self.refused("\n".join([f"rank {len(rows) - 1}", *rows[:at], *rows[at + 1:]]))
                self.refused("\n".join([head, *rows[:at], rows[at], *rows[at:]]))
                self.refused("\n".join([f"rank {len(rows) + 1}", *rows[:at], rows[at], *rows[at:]]))
                if at:
                    self.refused("\n".join([head, *rows[:at - 1], rows[at], rows[at - 1], *rows[at + 1:]]))
            if rows:
                self.refused("\n".join([*rows, head]))
            for wrong in (0, len(rows) - 1, len(rows) + 1, 16, 17, 10 ** 30):
                if wrong != len(rows):
                    self.refused("\n".join([f"rank {wrong}", *rows]))

    def test_fractions(self):
        right = "rank 1\nf[1, 0] = 3; 1 f[1, 0]; 5 f[1, 0]"
        self.assertEqual(read_least(right)(3), 75)
        for wrong in ("5/1", "10/2", "5/0", "0", "0/1", "-0", "+5", "05", "5/-1", "-5/-1", "5/", "/5", "5 ", "1/2", "5/5", "", "x"):
            self.refused(right.replace("5", wrong))
        self.assertEqual(read_least(right.replace("5", "-5"))(3), 75)
        # Half of the value is no integer any more, once or at last.
        self.refused("rank 2\nf[1, 0] = 0; 1/2 f[1, 0]; 1 f[2, 1]\nf[2, 1] = 16; 1 f[2, 1]; 1 f[2, 1]")
        self.refused("rank 2\nf[1, 0] = 0; 2/3 f[1, 0]; 1 f[2, 1]\nf[2, 1] = " + str(3 ** 300) + "; 1 f[2, 1]; 1 f[2, 1]")
        self.assertEqual(
            read_least("rank 2\nf[1, 0] = 0; 2 f[1, 0]; 1 f[2, 1]\nf[2, 1] = 16; 1 f[2, 1]; 1 f[2, 1]")(2 ** 20), 2 ** 24)

    def test_terms(self):
        right = least_text(n)
        self.assertEqual(read_least(right), n)
        for old, new in (
                ("2 f[1, 0] + 1 f[2, 1]", "1 f[2, 1] + 2 f[1, 0]"), ("2 f[1, 0] + 1 f[2, 1]", "2 f[1, 0] + 1 f[2, 1] + 0 f[1, 0]"),
                ("2 f[1, 0] + 1 f[2, 1]", "1 f[1, 0] + 1 f[1, 0] + 1 f[2, 1]"), ("-2 f[1, 0] + 3 f[2, 1]", "3 f[2, 1] + -2 f[1, 0]"),
                ("-2 f[1, 0] + 3 f[2, 1]", "-2 f[1, 0] +3 f[2, 1]"), ("-2 f[1, 0] + 3 f[2, 1]", "3 f[2, 1] - 2 f[1, 0]"),
                ("; 2 f[1, 0]; 1", "; 2 f[1, 0] + 0 f[2, 1]; 1"), ("1 f[2, 1]\n", "1 f[2, 1] \n"), ("\n", "\r\n"), ("f", "g"),
                ("[2, 1]", "[2,1]"), ("[2, 1]", "[4, 1]"), ("[2, 1]", "[2, 0]"), ("[2, 1]", "[3, 1]"), ("[2, 1]", "[1, 1]"),
                ("[2, 1]", "[02, 1]"), ("[2, 1]", "[2, 2]"), ("[2, 1]", "[2, -1]"), ("= 0", "= 1"), ("= 0", "= "), ("= 0", "= -0"),
                ("= 0", "= 1/2"), ("= 1", "= 1/1"), ("rank 2", "rank 2 "), ("; ", ";"), (" = ", "=")):
            self.assertIn(old, right)
            self.refused(right.replace(old, new))

    def test_more_lines_than_the_rank(self):
        # The second line is the first one again, or a combination; or the function does not hang on it.
        self.refused("rank 2\nf[1, 0] = 1; 1 f[1, 0]; 1 f[2, 1]\nf[2, 1] = 1; 1 f[1, 0]; 1 f[2, 1]")
        self.refused("rank 2\nf[1, 0] = 3; 1 f[1, 0]; 1 f[2, 1]\nf[2, 1] = 6; 1 f[2, 1]; 2 f[2, 1]")
        self.refused("rank 2\nf[1, 0] = 1; 1 f[1, 0]; 1 f[1, 0]\nf[2, 1] = 0; 2 f[2, 1]; 2 f[2, 1] + 1 f[1, 0]")
        self.refused("rank 2\nf[1, 0] = 1; 1 f[1, 0]; 1 f[1, 0]\nf[2, 0] = 0; 2 f[2, 0]; 1 f[1, 0] + 2 f[2, 0]")

    def test_parts_that_are_not_basic(self):
        # What is at 2 n + 1 a combination of the first part and of a later one, the later one told by another name.
        right = least_text(single(2))
        self.refused(right.replace("f[2, 0]", "f[2, 1]").replace("f[4, 2]", "f[4, 3]"))
        self.refused(right.replace("f[4, 2]", "f[8, 2]"))
        self.refused(right.replace("f[2, 0]", "f[4, 0]").replace("f[4, 2]", "f[8, 4]"))
        self.assertEqual(read_least(right), single(2))

    def test_rank_above_16(self):
        def chain(many):
            """1 at the number with so many digits, all of them 1, 0 at all others."""
            rows = [f"rank {many}"]
            for at in range(many):
                label = f"f[{2 ** at}, {2 ** at - 1}]"
                after = f"1 f[{2 ** (at + 1)}, {2 ** (at + 1) - 1}]"
                rows.append(f"{label} = 0; 0; {after}" if at < many - 1 else f"{label} = 1; 1 {label}; 0")
            return "\n".join(rows)
        self.assertEqual(read_least(chain(16)), single(2 ** 15 - 1))
        self.assertEqual(chain(16), least_text(single(2 ** 15 - 1)))
        self.refused(chain(17))
        self.refused(chain(18))
        with self.assertRaises(TooMany):
            single(2 ** 16 - 1)

    def test_great_numbers(self):
        great = "7" * 2900
        for many in (1, 2, 15):
            # The lines are told by one another in a ring, but not by the least rule.
            labels = [f"f[{2 ** at}, {2 ** at - 1}]" for at in range(many)]
            rows = [f"rank {many}"]
            for at, label in enumerate(labels):
                rows.append(f"{label} = 1; 1 {label}; {great} {labels[(at + 1) % many]} + {great[:-1]} {labels[at]}")
            text = "\n".join(rows)
            self.assertLess(len(text), 100000)
            self.refused(text)
            self.refused(text.replace("= 1;", "= 2;", 1))
        right = f"rank 1\nf[1, 0] = -{great}; 1 f[1, 0]; {great} f[1, 0]"
        self.assertEqual(read_least(right)(3), -int(great) ** 3)
        self.assertEqual(least_text(read_least(right)), right)
        self.refused("rank 1\nf[1, 0] = 1; 1 f[1, 0]; 0" + "7" * 5000 + " f[1, 0]")

    def test_drawn_texts(self):
        chance = random.Random(403)
        taken = 0
        for _ in range(600):
            many = chance.randint(1, 3)
            places = [(1, 0)]
            while len(places) < many:
                step, start = chance.choice(places)
                half = (2 * step, start + chance.choice((0, step)))
                if half not in places:
                    places.append(half)
            places.sort()
            labels = [f"f[{a}, {b}]" for a, b in places]
            rows = [f"rank {many}"]
            for (step, start), label in zip(places, labels):
                sides = []
                for half in ((2 * step, start), (2 * step, start + step)):
                    if half in places:
                        sides.append(f"1 f[{half[0]}, {half[1]}]")
                    else:
                        terms = [f"{factor} {other}" for other in labels if (factor := chance.choice((0, 1, 2, -1, 3)))]
                        sides.append(" + ".join(terms) or "0")
                rows.append(f"{label} = {chance.choice((0, 0, 1, 2))}; {sides[0]}; {sides[1]}")
            taken += self.check("\n".join(rows))
        self.assertGreater(taken, 10)


if __name__ == "__main__":
    unittest.main()
