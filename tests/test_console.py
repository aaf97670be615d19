"""Consoles: each kind of line, what is none, and the order of errors."""

import random
import re
import unittest

from halverules.console import Console
from halverules.desks import Desk
from halverules.errors import (
    Busy, InvalidCommand, InvalidNumber, NothingToUndo, Parted, Refused, TooMany, TooManyStates, UnknownName)
from halverules.halved import constant, number, single
from halverules.numbers import where
from halverules.relations import parting
from halverules.sums import sums
from halverules.texts import least_text
from making import counted_signs, turning

n = number()
INTEGER = "(0|-?[1-9][0-9]*)"
NAME = "([a-z]{1,8})"
FORMS = [re.compile(form.replace("B", NAME).replace("K", INTEGER)) for form in (
    r"B = number", r"B = constant K", r"B = single K", r"B = B \+ B", r"B = B - B", r"B = B \* B", r"B = B << K", r"B = B >> K",
    r"B = B // K", r"B = B mod K", r"B = B\[K, K\]", r"B = sums B", r"drop B", r"undo", r"B at K", r"B and B",
    r"B by K is K below K", r"show B", r"equate K B( \+ K B){0,5}")]


def is_command(line):
    return any(form.fullmatch(line) for form in FORMS)


def state(console):
    desk = console.desk
    return desk.names, [desk[name] for name in desk.names], desk.equations, desk.history, desk.busy


class Saying(unittest.TestCase):
    def console(self, *lines):
        console = Console()
        for line in ("n = number", "h = n // 2", "r = n mod 2", "one = constant 1", *lines):
            console.say(line)
        return console

    def raised(self, console, line, error, *fields):
        before = state(console)
        with self.assertRaises(error) as held:
            console.say(line)
        self.assertIs(type(held.exception), error, line)
        found = list(vars(held.exception).values())
        self.assertEqual(found, list(fields), line)
        self.assertEqual([type(worth) for worth in found], [type(worth) for worth in fields], line)
        self.assertEqual(state(console), before)
        return held.exception


class LinesTest(Saying):
    def test_document(self):
        console = Console()
        said = [console.say("n = number"), console.say("h = n // 2"), console.say("s = sums h"), console.say("s at 7"),
                console.say("h and n"), console.say("n by 3 is 0 below 100"), console.say("equate 1 n + -1 n")]
        self.assertEqual(said, ["rank 2", "rank 3", "rank 4", "9", "apart at 1", "34", "ok"])

    def test_making(self):
        console = self.console("sq = n * n")
        for line, function in (
                ("a = number", n), ("a = constant 0", constant(0)), ("a = constant -7", constant(-7)),
                (f"a = constant {10 ** 300}", constant(10 ** 300)), ("a = single 0", single(0)), ("a = single 77", single(77)),
                ("a = n + h", n + n // 2), ("a = n - h", n - n // 2), ("a = n * h", n * (n // 2)), ("a = n << 0", n),
                ("a = h << 64", n // 2 + 32), ("a = n >> 3", n >> 3), ("a = n // 1", n), ("a = sq // 8", n // 8 * (n // 8)),
                ("a = n mod 2", n % 2), ("a = n mod 7", n % 7), ("a = n[1, 0]", n), ("a = n[8, 63]", n * 8 + 63),
                ("a = sq[3, 1]", (n * 3 + 1) ** 2), ("a = sums sq", sums(n * n)), ("a = a + a", sums(n * n) * 2),
                ("n = n * n", n * n)):
            answer = console.say(line=line)
            name = line.split()[0]
            self.assertEqual(console.desk[name], function)
            self.assertEqual((answer, type(answer)), (f"rank {function.rank}", str))
            self.assertEqual(console.desk.history[-1], ("set", name, function))

    def test_deeds(self):
        console = self.console()
        self.assertEqual(console.say("equate 1 n + -2 h + -1 r"), "ok")
        self.assertEqual(console.desk.equations, (((1, "n"), (-2, "h"), (-1, "r")),))
        self.assertEqual(console.say("equate 0 one"), "ok")
        self.assertEqual(console.say("equate 1 n + 2 n + 3 n + 4 n + 5 n + -15 n"), "ok")
        self.assertEqual(len(console.desk.equations), 3)
        self.assertEqual(console.say("undo"), "ok")
        self.assertEqual(len(console.desk.equations), 2)
        console.say("x = number")
        self.assertEqual(console.say("drop x"), "ok")
        self.assertEqual(console.desk.names, ("h", "n", "one", "r"))
        self.assertEqual(console.desk.history[-1], ("drop", "x"))
        for _ in range(8):
            console.say("undo")
        self.raised(console, "undo", NothingToUndo)
        self.assertEqual(console.desk.names, ())

    def test_questions(self):
        console = self.console("sq = n * n", "far = single 300", "nf = n + far")
        before = state(console)
        for name, function in (("n", n), ("h", n // 2), ("sq", n * n), ("far", single(300))):
            for at in (0, 1, 7, 300, 10 ** 18, 10 ** 300):
                self.assertEqual(console.say(f"{name} at {at}"), str(function(at)))
            self.assertEqual(console.say(f"show {name}"), least_text(function).replace("\n", " | "))
            for modulus in (2, 3, 12):
                for rest in (0, 1, modulus - 1):
                    for below in (0, 1, 1000, 10 ** 300):
                        self.assertEqual(
                            console.say(f"{name} by {modulus} is {rest} below {below}"),
                            str(where(function, modulus, rest).count(below)))
            for other in ("n", "h", "sq", "nf"):
                place = parting(function, console.desk[other])
                self.assertEqual(console.say(f"{name} and {other}"), "same" if place is None else f"apart at {place}")
        self.assertEqual(console.say("n and nf"), "apart at 300")
        self.assertEqual(console.say("n and n"), "same")
        self.assertEqual(console.say("show one"), "rank 1 | f[1, 0] = 1; 1 f[1, 0]; 1 f[1, 0]")
        console.say("nil = n - n")
        self.assertEqual(console.say("show nil"), "rank 0")
        console.say("undo")
        self.assertEqual(state(console), before)

    def test_names_that_are_words(self):
        console = Console()
        words = ("number", "constant", "single", "sums", "drop", "undo", "equate", "at", "and", "by", "is", "below", "show", "mod", "ok")
        for word in words:
            if len(word) < 9:
                self.assertEqual(console.say(f"{word} = number"), "rank 2")
        for word in words:
            self.assertEqual(console.say(f"{word} at 5"), "5")
            self.assertEqual(console.say(f"show {word}"), least_text(n).replace("\n", " | "))
            for other in words:
                self.assertEqual(console.say(f"{word} and {other}"), "same")
            self.assertEqual(console.say(f"{word} by 2 is 1 below 10"), "5")
            self.assertEqual(console.say(f"{word} = sums {word}"), "rank 3")
            self.assertEqual(console.say(f"{word} = {word} - {word}"), "rank 0")
            self.assertEqual(console.say(f"{word} = {word}[1, 0]"), "rank 0")
            self.assertEqual(console.say(f"equate 5 {word}"), "ok")
            self.assertEqual(console.say("undo"), "ok")
            self.assertEqual(console.say(f"drop {word}"), "ok")
            self.assertEqual(console.say("undo"), "ok")
            self.assertEqual(console.say(f"{word} = number"), "rank 2")

    def test_desk(self):
        first, second = Console(), Console()
        self.assertIs(type(first.desk), Desk)
        self.assertIs(first.desk, first.desk)
        first.say("n = number")
        self.assertEqual((first.desk.names, second.desk.names), (("n",), ()))
        first.desk["z"] = n * n
        self.assertEqual(first.say("z at 9"), "81")
        self.assertTrue(first == first and first != second)
        with self.assertRaises(AttributeError):
            first.desk = Desk()


class NoLinesTest(Saying):
    LINES = ("n = number", "a = constant 5", "a = constant -10", "a = single 12", "c = n + h", "c = n - h", "c = n * h", "c = n << 12",
             "c = h >> 10", "c = n // 2", "c = n mod 5", "c = h[2, 10]", "c = sums h", "drop h", "undo", "h at 100", "n and h",
             "n by 10 is 2 below 305", "show h", "equate 1 n + -10 n + 9 n")

    def check(self, line):
        """InvalidCommand with just this value if it is none of the lines; whether it is one."""
        console = self.console()
        if is_command(line):
            try:
                console.say(line)
            except (UnknownName, InvalidNumber, Refused, NothingToUndo, TooMany, TooManyStates):
                pass
            return True
        with self.assertRaises(InvalidCommand) as held:
            console.say(line)
        self.assertIs(type(held.exception), InvalidCommand)
        self.assertIs(held.exception.command, line)
        self.assertEqual(len(console.desk.history), 4)
        return False

    def test_one_sign_more_or_less_or_another(self):
        taken = refused = 0
        for line in self.LINES:
            self.assertTrue(self.check(line))
            others = set()
            for at in range(len(line) + 1):
                others.add(line[:at] + line[at + 1:])
                for sign in " 0-1+an=[]\n":
                    others.add(line[:at] + sign + line[at:])
                    others.add(line[:at] + sign + line[at + 1:])
            for other in sorted(others - {line}):
                found = self.check(other)
                taken += found
                refused += not found
        self.assertGreater(refused, 3000)
        self.assertGreater(taken, 200)

    def test_other_kinds(self):
        for wrong in (None, True, False, 0, 5, b"undo", (), ("undo",), ["undo"], {}, object(), str, n, 1 + 0j):
            self.check_kind(wrong)
        for wrong in ("", " ", "\n", "undo ", " undo", "undo\n", "Undo", "undo 1", "undo undo", "drop", "drop ", "show", "n", "n =", "n = ",
                      "n at", "n at ", "n and", "and n", "at 5", "= number", "n = numbers", "n = Number", "n = 5", "n = n", "n = -n", "n = B",
                      "n = B + B", "a = B[K, N]", "a = n[K, N]", "n = n + 5", "n = 5 + n", "n = n % 2", "n = n mod h", "n = n / 2", "n = n ** 2",
                      "n = n[1,0]", "n = n[1, 0", "n = n [1, 0]", "n = n[ 1, 0]", "n = n[1]", "n = n[1, 0, 0]", "n = n[1, 0] ", "n = [1, 0]",
                      "n = n[1  0]", "n = n[a, 0]", "n = n[1, -0]", "n = n[01, 0]", "n = sums", "n = sums n n", "n = sums 5", "n = sumsn",
                      "n = constant", "n = constant n", "n = constant 1 2", "n = single -", "n = single +1", "n=number", "n  = number",
                      "n =  number", "n\t= number", "n == number", "n by 2 is 1", "n by 2 is 1 below", "n by 2 below 5 is 1",
                      "n by 2 is 1 below 5 5", "by 2 is 1 below 5", "equate", "equate ", "equate 1", "equate n", "equate 1 n +", "equate 1 n + 2",
                      "equate 1 n - 2 n", "equate 1 n 2 n", "equate 1 n + + 2 n", "equate + 1 n", "equate 1 n+2 n", "equate 1 n, 2 n",
                      "equate 01 n", "equate -0 n", "equate 1 N", "equate n 1", "equate 1 n + n 2", "release 0", "set n number",
                      "abcdefghi = number", "n at abcdefghi", "drop abcdefghi", "A = number", "n1 = number", "n at 1.0", "n at 1e3", "n at 0x1",
                      "n at 00", "n at 007", "n at -0", "n at --1", "n at 1_0"):
            self.assertFalse(self.check(wrong), wrong)
        seven = " + ".join(["1 n"] * 7)
        self.assertFalse(self.check("equate " + seven))
        self.assertTrue(self.check("equate " + seven[:-6]))
        self.assertFalse(self.check("n " * 40000))

    def check_kind(self, wrong):
        with self.assertRaises(InvalidCommand) as held:
            Console().say(wrong)
        self.assertIs(held.exception.command, wrong)


class ErrorsTest(Saying):
    def test_names(self):
        console = self.console()
        for line, name in (
                ("a = x + y", "x"), ("a = n + y", "y"), ("a = x - n", "x"), ("a = n * a", "a"), ("a = x << 65", "x"), ("a = x >> -1", "x"),
                ("a = x // 0", "x"), ("a = x mod 1", "x"), ("a = x[0, 0]", "x"), ("a = sums x", "x"), ("drop x", "x"), ("x at -1", "x"),
                ("x and y", "x"), ("n and y", "y"), ("x by 1 is 5 below -1", "x"), ("show x", "x"), ("equate 1 x + 1 y", "x"),
                ("equate 1 n + 1 y + 0 x", "y"), ("abcdefgh at 5", "abcdefgh"), ("number at 5", "number"), ("undo at 5", "undo")):
            self.raised(console, line, UnknownName, name)

    def test_numbers(self):
        console = self.console()
        great = 10 ** 300 + 1
        for line, worth in (
                ("a = single -1", -1), (f"a = single {great}", great), ("a = n << -1", -1), ("a = n << 65", 65), ("a = n >> -1", -1),
                ("a = n >> 65", 65), ("a = n // 0", 0), ("a = n // 9", 9), ("a = n // -1", -1), ("a = n mod 1", 1), ("a = n mod 13", 13),
                ("a = n mod 0", 0), ("a = n mod -2", -2), ("a = n[0, 0]", (0, 0)), ("a = n[9, 0]", (9, 0)), ("a = n[1, -1]", (1, -1)),
                ("a = n[8, 64]", (8, 64)), ("a = n[-1, 99]", (-1, 99)), ("n at -1", -1), (f"n at {great}", great),
                ("n by 1 is 0 below 5", 1), ("n by 13 is 0 below 5", 13), ("n by -3 is 0 below 5", -3), ("n by 3 is 3 below 5", 3),
                ("n by 3 is -1 below 5", -1), ("n by 3 is 0 below -1", -1), (f"n by 3 is 0 below {great}", great),
                ("n by 1 is 7 below -5", 1), ("n by 3 is 7 below -5", 7), ("n by 13 is -1 below -5", 13)):
            self.raised(console, line, InvalidNumber, worth)

    def test_too_many(self):
        console = self.console("g = single 32767", "b = single 21845")
        for line in ("a = g + b", "a = g - n", "a = g * b", "a = single 32768", f"a = single {10 ** 300}",
                     "a = g // 3", "g = g >> 3"):
            self.raised(console, line, TooMany)
        console.desk["many"] = turning(16, 4)[0]
        self.raised(console, "many by 2 is 1 below 100", TooManyStates)
        # Numbers that are not valid come ahead of that.
        self.raised(console, "many by 2 is 1 below -1", InvalidNumber, -1)
        self.raised(console, "many by 2 is 2 below 5", InvalidNumber, 2)
        self.raised(console, "a = g << 65", InvalidNumber, 65)
        self.raised(console, "a = many mod 2", TooMany)
        console.desk["few"] = counted_signs(6)[0]
        self.assertEqual(console.say("a = few mod 12"), "rank 7")
        console.desk["few"] = counted_signs(6)[0] // 2
        self.raised(console, "a = few mod 12", TooMany)

    def test_refused(self):
        console = self.console("equate 1 n + -2 h + -1 r")
        for line, number in (("n = constant 0", 1), ("r = constant 0", 1), ("h = n + n", 1), ("n = n * n", 2)):
            error = self.raised(console, line, Refused, 0)
            self.assertEqual((type(error.__cause__), error.__cause__.number), (Parted, number))
        error = self.raised(console, "equate 1 n + -1 h", Refused, 1)
        self.assertEqual(error.__cause__.number, 1)
        self.raised(console, "drop r", Refused, 0)
        # What cannot be made at all is told first.
        self.raised(console, "n = x + n", UnknownName, "x")
        self.raised(console, "n = n << 65", InvalidNumber, 65)
        console.say("n = n[1, 0]")
        console.say("g = single 32767")
        self.raised(console, "equate 1 g + 1 g + 1 g + 1 g + 1 one", TooMany)
        console.say("equate 0 g + 0 g + 0 g + 0 g")
        self.raised(console, "equate 0 g + 0 g + 0 g + 0 g + 0 n", TooMany)

    def test_too_many_of_a_deed(self):
        console = self.console("g = single 32767", "z = n - n", "equate 0 g + 0 g + 0 g + 0 g + 0 z")
        self.raised(console, "z = constant 1", TooMany)
        self.raised(console, "z = number", TooMany)
        self.assertEqual(console.say("z = h - h"), "rank 0")

    def test_busy(self):
        console = self.console("equate 1 n + -1 n", "g = single 32767")
        done = []

        def watch(desk):
            for line in ("drop n", "drop x", "undo", "equate 1 n", "equate 1 x", "a = number", "n = constant 0", "a = n + h", "g = n + n"):
                self.raised(console, line, Busy)
            for line in ("drop N", "undo 1", "equate n", "a = numbers"):
                self.raised(console, line, InvalidCommand, line)
            # These come ahead where a name is given a function.
            self.raised(console, "a = x + y", UnknownName, "x")
            self.raised(console, "a = n << 65", InvalidNumber, 65)
            self.raised(console, "a = g + n", TooMany)
            self.assertEqual([console.say("n at 5"), console.say("n and h"), console.say("new at 3")], ["5", "apart at 1", "9"])
            done.append(len(desk.history))

        console.desk.do_all(("set", "new", n * n), watch=watch)
        self.assertEqual(done, [7])
        self.assertEqual(console.say("drop new"), "ok")

    def test_a_refused_line_changes_nothing(self):
        chance = random.Random(471)
        console = self.console("equate 1 n + -2 h + -1 r")
        parts = ["n", "h", "r", "x", "a", "=", "+", "-", "*", "number", "constant", "single", "undo", "drop", "at", "and", "5", "-1", "0",
                 "equate", "1", "mod", "by", "is", "below", "show", "sums", "<<", "n[1,", "5]"]
        refused = 0
        for _ in range(4000):
            line = " ".join(chance.choice(parts) for _ in range(chance.randint(1, 5)))
            before = state(console)
            try:
                console.say(line)
                self.assertTrue(is_command(line), line)
            except InvalidCommand:
                self.assertFalse(is_command(line), line)
                self.assertEqual(state(console), before)
                refused += 1
            except (UnknownName, InvalidNumber, Refused, NothingToUndo, TooMany):
                self.assertEqual(state(console), before)
        self.assertGreater(refused, 3000)


if __name__ == "__main__":
    unittest.main()
