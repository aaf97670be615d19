"""solved: functions that are told by one another at n + S, and texts that tell none."""

import random
import re
import unittest

from halverules.costs import costs
from halverules.errors import InvalidText, TooMany
from halverules.halved import Halved, constant, number, single
from halverules.recurrences import solved
from halverules.texts import least_text
from reference import basic_parts, check_least, check_values

n = number()
GREAT = 10 ** 12
ENTRY = r"(?:0|-?[1-9][0-9]*)"
NAME = "[a-z]{1,8}"
TERM = rf"-?[1-9][0-9]*(?: n| {NAME}\[(?:0|-?[12])\])?"
SUM = rf"0|{TERM}(?: \+ {TERM}){{0,5}}"
GROUP = re.compile(
    rf"({NAME}) = ({ENTRY}(?: {ENTRY}){{0,3}})\n({NAME}) even = ({SUM})\n({NAME}) odd = ({SUM})(?:\n|$)")


class Plain:
    """The functions of a text by plain recursion; `fine` is whether it is a text that tells functions."""

    def __init__(self, text):
        self.told = {}
        self.known = {}
        self.fine = self.read(text) and self.is_told()

    def read(self, text):
        at = 0
        while at < len(text):
            match = GROUP.match(text, at)
            if not match or len({match[1], match[3], match[5]}) > 1:
                return False
            if self.told and match[1] <= max(self.told):
                return False
            self.told[match[1]] = [int(word) for word in match[2].split()], [self.terms(match[4]), self.terms(match[6])]
            at = match.end()
        numbers = [first for firsts, _ in self.told.values() for first in firsts]
        numbers += [term[0] for _, sides in self.told.values() for side in sides for term in side]
        return 1 <= len(self.told) <= 3 and not text.endswith("\n") and max(map(abs, numbers)) <= GREAT

    def terms(self, side):
        found = []
        for term in side.split(" + "):
            factor, _, thing = term.partition(" ")
            if side != "0":
                name, _, apart = thing.partition("[")
                found.append((int(factor), name, int(apart[:-1]) if apart else None))
        return found

    def is_told(self):
        """Whether all numbers at which functions are asked are less, and not less than 0, looked at one by one."""
        for firsts, sides in self.told.values():
            for m in range(len(firsts), 20):
                for _, name, apart in sides[m % 2]:
                    if apart is not None and (name not in self.told or not 0 <= m // 2 + apart < m):
                        return False
        return True

    def value(self, name, m):
        if (name, m) not in self.known:
            firsts, sides = self.told[name]
            if m < len(firsts):
                worth = firsts[m]
            else:
                worth = sum(factor * self.thing(thing, m // 2, apart) for factor, thing, apart in sides[m % 2])
            self.known[name, m] = worth
        return self.known[name, m]

    def thing(self, thing, half, apart):
        if apart is None:
            return half if thing == "n" else 1
        return self.value(thing, half + apart)


def sum_text(terms):
    """The text of terms (factor, name or "" or "n", S or None)."""
    shown = []
    for factor, thing, apart in terms:
        shown.append(f"{factor}" if thing == "" else f"{factor} n" if apart is None else f"{factor} {thing}[{apart}]")
    return " + ".join(shown) or "0"


def drawn(chance, names, size=3, most=6):
    """The text of recursions for these names, whose terms are as the document asks."""
    rows = []
    for name in sorted(names):
        firsts = [chance.randint(-size, size) for _ in range(chance.randint(1, 4))]
        sides = []
        for digit in (0, 1):
            least = (len(firsts) - digit + 1) // 2
            places = [apart for apart in range(-2, 3) if 0 <= least + apart < 2 * least + digit]
            terms = []
            for _ in range(chance.randint(0, most)):
                factor = chance.choice([worth for worth in range(-size, size + 1) if worth]) if size < 10 else chance.choice(
                    (size, -size, 1, -1))
                kind = chance.randint(0, 4)
                if kind == 0 or not places:
                    terms.append((factor, "", None))
                elif kind == 1:
                    terms.append((factor, "n", None))
                else:
                    terms.append((factor, chance.choice(names), chance.choice(places)))
            sides.append(sum_text(terms))
        rows += [f"{name} = " + " ".join(map(str, firsts)), f"{name} even = {sides[0]}", f"{name} odd = {sides[1]}"]
    return "\n".join(rows)


class SolvedTest(unittest.TestCase):
    def check(self, text, least=False):
        """The functions have the values of the recursion, or there are too many lines. Whether they are told."""
        plain = Plain(text)
        self.assertTrue(plain.fine, text)
        try:
            pairs = solved(text)
        except TooMany:
            return False
        self.assertIs(type(pairs), tuple)
        self.assertEqual([name for name, _ in pairs], sorted(plain.told))
        for pair in pairs:
            self.assertIs(type(pair), tuple)
            name, function = pair
            self.assertIs(type(function), Halved)
            check_values(self, function, lambda m: plain.value(name, m), range(80), (2 ** 40 - 1, 3 ** 40, 10 ** 30 + 7))
            if least:
                check_least(self, function, lambda m: plain.value(name, m), range(128))
        return True

    def test_document(self):
        text = "s = 0 1\ns even = 1 s[0]\ns odd = 1 s[0] + 1 s[1]"
        ((name, stern),) = solved(text=text)
        self.assertEqual([name, stern(5), stern(2 ** 100 + 1), stern.rank, (stern << 1)(4)], ["s", 3, 101, 2, 3])

    def test_drawn_texts(self):
        chance = random.Random(411)
        told = 0
        for at in range(260):
            names = chance.sample(["a", "b", "even", "odd", "zz", "abcdefgh", "z", "ab"], 1 + at % 3)
            told += self.check(drawn(chance, names, chance.choice((1, 3)), chance.choice((2, 4, 6))), least=at % 20 == 0)
        self.assertGreater(told, 120)

    def test_great_numbers(self):
        chance = random.Random(412)
        told = 0
        for at in range(30):
            told += self.check(drawn(chance, ["f", "g"][:1 + at % 2], GREAT, 2))
        self.assertGreater(told, 12)
        for great in (GREAT, -GREAT):
            text = f"a = {great}\na even = {great} a[0] + {great} n + {great}\na odd = {great} n"
            self.check(text)
            for place in ("a = ", "even = ", "+ ", "odd = "):
                text_beyond = text.replace(f"{place}{great}", f"{place}{great + (1 if great > 0 else -1)}", 1)
                self.assertNotEqual(text_beyond, text)
                with self.assertRaises(InvalidText):
                    solved(text_beyond)

    def test_every_place_of_each_number_of_first_values(self):
        for many in range(1, 5):
            for digit in (0, 1):
                for apart in range(-2, 3):
                    sides = [f"1 a[{apart}]", "0"] if digit == 0 else ["0", f"1 a[{apart}]"]
                    text = f"a = {' '.join(['1', '2', '3', '4'][:many])}\na even = {sides[0]}\na odd = {sides[1]}"
                    least = min(m for m in range(many, many + 2) if m % 2 == digit)
                    if 0 <= least // 2 + apart < least:
                        self.assertTrue(self.check(text, least=True), text)
                    else:
                        with self.assertRaises(InvalidText):
                            solved(text)

    def test_names_that_are_words(self):
        text = "even = 0 1\neven even = 1 even[0] + 1 odd[0]\neven odd = 1 n[0] + 1 n\n" \
               "n = 0 1\nn even = 2 n[0]\nn odd = 2 n[0] + 1\nodd = 0\nodd even = 1 odd[0]\nodd odd = 1 odd[0] + 1"
        (_, first), (_, second), (_, third) = solved(text)
        self.assertEqual(second, n)
        values = {0: 0, 1: 1}
        ones = [at.bit_count() for at in range(200)]
        for m in range(2, 200):
            values[m] = values[m // 2] + ones[m // 2] if m % 2 == 0 else m // 2 * 2
        self.assertEqual([third(m) for m in range(200)], ones)
        self.assertEqual([first(m) for m in range(200)], list(values.values()))

    def test_sums_of_nothing_and_twice_the_same(self):
        ((_, function),) = solved("a = 7\na even = 0\na odd = 0")
        self.assertEqual(function, single(0) * 7)
        ((_, function),) = solved("a = 0\na even = 0\na odd = 0")
        self.assertEqual(function, constant(0))
        ((_, function),) = solved("a = 0 1\na even = 1 n + 1 n\na odd = 3 n + -1 n + 5 + -4")
        self.assertEqual(function, n)
        ((_, function),) = solved("a = 5\na even = 1 a[0] + -1 a[0]\na odd = 1 a[0] + -1 a[0]")
        self.assertEqual(function, single(0) * 5)

    def test_further_first_values_change_nothing(self):
        chance = random.Random(413)
        changed = 0
        for _ in range(60):
            text = drawn(chance, ["a"], 2, 3)
            plain = Plain(text)
            firsts = plain.told["a"][0]
            while len(firsts) < 4:
                rows = text.split("\n")
                rows[0] += f" {plain.value('a', len(firsts))}"
                further = "\n".join(rows)
                try:
                    self.assertEqual(solved(further), solved(text))
                    changed += 1
                except TooMany:
                    pass
                text = further
                firsts.append(0)
                plain = Plain(text)
                firsts = plain.told["a"][0]
        self.assertGreater(changed, 40)

    def test_same_as_costs(self):
        chance = random.Random(414)
        for _ in range(40):
            low, high, c, d = [chance.randint(-5, 5) or 1 for _ in range(4)]
            firsts = tuple(chance.randint(-5, 5) for _ in range(chance.randint(2, 4)))
            text = f"t = {' '.join(map(str, firsts))}\n"
            text += f"t even = {low} t[0] + {high} t[0] + {2 * c} n + {d}\n"
            text += f"t odd = {low} t[0] + {high} t[1] + {2 * c} n + {c} + {d}"
            wanted = costs(low, high, n * c + d, firsts)
            self.assertEqual(solved(text), (("t", wanted),))

    def test_halves_are_the_lines(self):
        chance = random.Random(415)
        done = 0
        for _ in range(80):
            names = ["p", "q", "r"][:chance.randint(1, 3)]
            text = drawn(chance, names, 2, 3)
            plain = Plain(text)
            try:
                found = dict(solved(text))
                for name, (firsts, sides) in plain.told.items():
                    self.assertEqual([found[name](m) for m in range(len(firsts))], firsts)
                    for digit in (0, 1):
                        # From the first values on; ahead of them the function may be another one.
                        start = (len(firsts) - digit + 1) // 2
                        line = constant(0)
                        for factor, thing, apart in sides[digit]:
                            if apart is None:
                                line = line + factor * ((n << start) if thing else 1)
                            else:
                                line = line + factor * (found[thing] << start + apart)
                        self.assertEqual(found[name][2, 2 * start + digit], line)
                done += 1
            except TooMany:
                pass
        self.assertGreater(done, 30)

    def test_too_many_comes_last(self):
        # a(m) is 1 at one number with so many digits alone.
        def text_for(lines):
            return "\n".join(["a = 0 1", "a even = 1 a[0]", "a odd = " + lines])
        self.assertEqual(len(solved(text_for("1 a[0]"))), 1)
        wide = "\n".join(
            f"{name} = {firsts}\n{name} even = 1 {name}[-1] + 2 {other}[1] + 3 {other}[-2] + 1 n\n"
            f"{name} odd = 5 {name}[-2] + 7 {other}[2] + -1 {name}[1] + 1"
            for name, other, firsts in (("a", "b", "1 2 3 4"), ("b", "c", "5 6 7 9"), ("c", "a", "2 0 1 1")))
        self.assertTrue(Plain(wide).fine)
        with self.assertRaises(TooMany):
            solved(wide)
        with self.assertRaises(InvalidText):
            solved(wide + " ")
        with self.assertRaises(InvalidText):
            solved(wide.replace("c[1]", "d[1]"))

    def test_just_at_the_greatest_rank(self):
        ranks = set()
        chance = random.Random(416)
        refused = 0
        for _ in range(150):
            text = drawn(chance, ["a", "b", "c"], 1, 3)
            try:
                ranks |= {function.rank for _, function in solved(text)}
            except TooMany:
                refused += 1
                plain = Plain(text)
                greatest = max(len(basic_parts(lambda m: plain.value(name, m), range(128))) for name in "abc")
                self.assertEqual(greatest, 17)
        self.assertGreater(refused, 3)
        self.assertGreaterEqual(len(ranks), 10)


class InvalidTest(unittest.TestCase):
    def refused(self, text):
        with self.assertRaises(InvalidText) as held:
            solved(text)
        self.assertIs(type(held.exception), InvalidText)
        self.assertIs(held.exception.text, text)

    def check(self, text):
        """It is taken exactly if a plain look says so."""
        if Plain(text).fine:
            try:
                solved(text)
            except TooMany:
                pass
            return True
        self.refused(text)
        return False

    def test_other_kinds(self):
        for wrong in (None, True, False, 0, 5, b"a = 0", (), ("a = 0",), ["a = 0"], {}, object(), str, n, 1 + 0j, "", " ", "\n",
                      "a", "a = 0", "a = 0\na even = 0", "\n\n", "a = \na even = 0\na odd = 0", "= 0\neven = 0\nodd = 0",
                      " = 0\n even = 0\n odd = 0"):
            self.refused(wrong)

    TEXTS = (
        "s = 0 1\ns even = 1 s[0]\ns odd = 1 s[0] + 1 s[1]",
        "a = 5\na even = -2 b[0] + 1\na odd = 12\nb = 1 2 3\nb even = 3 n\nb odd = 1 a[-1] + -1 n + -10",
        "x = -1 10 0 7\nx even = 0\nx odd = 1 x[2] + 1 x[-2]")

    def test_one_sign_more_or_less_or_another(self):
        taken = asked = 0
        for text in self.TEXTS:
            self.assertTrue(self.check(text))
            for at in range(len(text) + 1):
                for sign in " \n0-+1n[]=se":
                    asked += 2
                    taken += self.check(text[:at] + sign + text[at:])
                    taken += self.check(text[:at] + sign + text[at + 1:])
                taken += self.check(text[:at] + text[at + 1:])
        self.assertGreater(asked - taken, 3000)
        self.assertGreater(taken, 100)

    def test_lines(self):
        chance = random.Random(417)
        for text in self.TEXTS:
            rows = text.split("\n")
            for at in range(len(rows)):
                self.refused("\n".join(rows[:at] + rows[at + 1:]))
                self.refused("\n".join(rows[:at] + [rows[at]] + rows[at:]))
            for _ in range(30):
                order = list(rows)
                chance.shuffle(order)
                if order != rows:
                    self.refused("\n".join(order))
        first, second, third = (f"{name} = 1\n{name} even = 0\n{name} odd = 0" for name in "abc")
        self.assertEqual(len(solved("\n".join((first, second, third)))), 3)
        for order in ((second, first), (first, first), (first, third, second), (third, second, first)):
            self.refused("\n".join(order))
        self.refused("\n".join((first, second, third, third.replace("c", "d"))))

    def test_numbers_of_things(self):
        def told(firsts="1", even="0", odd="0", name="a"):
            return f"{name} = {firsts}\n{name} even = {even}\n{name} odd = {odd}"
        self.assertTrue(self.check(told("1 2 3 4")))
        self.refused(told("1 2 3 4 5"))
        self.refused(told(""))
        for many in range(1, 9):
            even = " + ".join(["1 a[0]", "2 n", "3", "-1 a[-1]", "1", "5 n", "1 a[0]", "1"][:many])
            (self.assertTrue if many <= 6 else self.assertFalse)(self.check(told("1 1", even)))
        for firsts in ("01", "-0", "+1", "1.0", "1  2", " 1", "1 ", "a", "1 a", "--1", "00", "1\t2", "1_0", "0x1", "1e3"):
            self.refused(told(firsts))
        for term in ("0", "0 n", "0 a[0]", "1 n + 0", "0 + 1 n"):
            (self.assertTrue if term == "0" else self.assertFalse)(self.check(told(odd=term)))
        for term in ("01", "-0", "+1 n", "1 n ", " 1 n", "1  n", "n", "1n", "a[0]", "1 a", "1 a[]", "1 a[+0]", "1 a[-0]", "1 a[00]",
                     "1 a[0", "1 a0]", "1 a[0]]", "1 a [0]", "1 a[ 0]", "1 a[3]", "1 a[-3]", "1 a[1]", "1 a[-1]", "1 b[0]",
                     "1 A[0]", "1 a[0] 1", "1 a[0]+ 1", "1 a[0] +1", "1 + ", " + 1", "1 - 1", "1 n n", "1 1", "1 n[0]",
                     "1 aaaaaaaaa[0]"):
            self.refused(told(odd=term))
        self.assertTrue(self.check(told(name="abcdefgh")))
        for name in ("abcdefghi", "", "A", "a1", "a_b", "a b", " a", "1"):
            self.refused(told(name=name))

    def test_great_texts(self):
        self.refused("a = " + "1" * 3000 + "\na even = 0\na odd = 0")
        self.refused("a = 1\na even = " + " + ".join(["1"] * 20000) + "\na odd = 0")
        self.refused("a\n" * 30000)


if __name__ == "__main__":
    unittest.main()
