"""Desks: names, equations, deeds, do_all and undo, with all that may be wrong."""

import random
import unittest

from halverules.desks import Desk
from halverules.errors import (
    Busy, InvalidDeeds, InvalidName, InvalidNumber, InvalidValues, NotAFunction, NothingToUndo, Parted, Refused, TooMany,
    UnknownName)
from halverules.halved import Halved, constant, number, single
from halverules.loops import from_high
from halverules.rules import rule
from making import made_rule

n = number()
NO_NAMES = ["", "abcdefghi", "A", "aB", "a1", "1", "a b", " a", "a ", "a_b", "a-b", "\n", "a\n", "~", True, False, None, 0, 5,
            (), ("a",), ["a"], {}, b"a", object(), str, n, 1 + 0j, "e\u0301", "\u00e4"]
NO_FUNCTIONS = [True, None, 5, 0, "n", (), (n,), [n], {}, object(), Halved, number]
NO_INTEGERS = [True, False, None, "1", "", b"", (), (1,), [], {}, object(), int, n, 1 + 0j]
NO_TUPLES = [None, True, 0, 1, "", "ab", [(1, "a")], {}, object(), n, {(1, "a")}]


def state(desk):
    """All that a desk tells."""
    return (
        desk.names, [desk[name] for name in desk.names], [id(desk[name]) for name in desk.names], desk.equations, desk.busy,
        desk.history)


class DeskTest(unittest.TestCase):
    def raised(self, error, field, call, *arguments, **more):
        """The call raises just this error with this field, if it has one. The error."""
        with self.assertRaises(error) as held:
            call(*arguments, **more)
        self.assertIs(type(held.exception), error)
        fields = list(vars(held.exception).values())
        if error in (TooMany, Busy, NothingToUndo):
            self.assertEqual(fields, [])
        elif type(field) is int or field is None:
            self.assertEqual([(worth, type(worth)) for worth in fields], [(field, type(field))])
        else:
            self.assertEqual(len(fields), 1)
            self.assertIs(fields[0], field)
        return held.exception

    def refused(self, desk, error, field, call, *arguments, **more):
        """The same, and the desk is as it was."""
        before = state(desk)
        found = self.raised(error, field, call, *arguments, **more)
        self.assertEqual(state(desk), before)
        return found


class NamesTest(DeskTest):
    def test_new(self):
        desk = Desk()
        self.assertEqual((desk.names, desk.equations, desk.busy, desk.history), ((), (), False, ()))
        self.assertIs(desk.busy, False)

    def test_set_and_take_away(self):
        desk = Desk()
        half = n // 2
        for name in ("b", "abcdefgh", "z", "aa", "a"):
            desk[name] = half
        self.assertEqual(desk.names, ("a", "aa", "abcdefgh", "b", "z"))
        self.assertIs(desk["aa"], half)
        desk["aa"] = n
        self.assertIs(desk["aa"], n)
        self.assertEqual(desk.names, ("a", "aa", "abcdefgh", "b", "z"))
        self.assertIsNone(desk.drop("aa"))
        self.assertEqual(desk.names, ("a", "abcdefgh", "b", "z"))
        self.raised(UnknownName, "aa", lambda: desk["aa"])
        self.refused(desk, UnknownName, "aa", desk.drop, "aa")
        desk["aa"] = half
        self.assertIs(desk["aa"], half)
        self.assertIsNone(desk.drop(name="aa"))
        self.assertEqual(desk.history[-1], ("drop", "aa"))

    def test_two_desks(self):
        first, second = Desk(), Desk()
        first["a"] = n
        second["b"] = n
        self.assertEqual((first.names, second.names), (("a",), ("b",)))
        self.assertFalse(first == second)
        self.assertTrue(first == first)
        self.assertTrue(first != second)
        self.assertFalse(Desk() == Desk())
        for other in (None, 0, (), "", n):
            self.assertFalse(first == other)

    def test_no_names(self):
        desk = Desk()
        desk["a"] = n
        for wrong in NO_NAMES:
            self.refused(desk, InvalidName, wrong, lambda: desk[wrong])
            self.refused(desk, InvalidName, wrong, desk.drop, wrong)
            self.refused(desk, InvalidName, wrong, desk.__setitem__, wrong, n)
            self.refused(desk, InvalidName, wrong, desk.__setitem__, wrong, None)
            self.assertIs(wrong in desk, False)
        for unknown in ("b", "abcdefgh", "names"):
            self.refused(desk, UnknownName, unknown, lambda: desk[unknown])
            self.refused(desk, UnknownName, unknown, desk.drop, unknown)
            self.assertIs(unknown in desk, False)
        self.assertIs("a" in desk, True)
        for wrong in NO_FUNCTIONS:
            self.refused(desk, NotAFunction, wrong, desk.__setitem__, "a", wrong)
            self.refused(desk, NotAFunction, wrong, desk.__setitem__, "b", wrong)

    def test_what_was_read_stays(self):
        desk = Desk()
        desk["a"] = n
        desk.equate(((2, "a"), (-2, "a")))
        read = desk.names, desk.equations, desk.history
        copies = tuple(tuple(each) for each in read)
        desk["b"] = n
        desk.equate(((1, "a"), (-1, "b")))
        desk.release(0)
        desk.undo(times=2)
        self.assertEqual(read, copies)
        self.assertEqual(read, (("a",), (((2, "a"), (-2, "a")),), (("set", "a", n), ("equate", ((2, "a"), (-2, "a"))))))
        for each in read:
            self.assertIs(type(each), tuple)
        with self.assertRaises(TypeError):
            iter(desk)
        with self.assertRaises(TypeError):
            list(desk)


class EquationsTest(DeskTest):
    def desk(self):
        desk = Desk()
        for name, function in (("n", n), ("half", n // 2), ("rest", n % 2), ("one", constant(1)), ("sq", n * n), ("nil", n - n)):
            desk[name] = function
        return desk

    def test_right_ones(self):
        desk = self.desk()
        rows = [((1, "n"), (-2, "half"), (-1, "rest")), ((0, "n"),), ((5, "nil"),), ((1, "n"), (-1, "n")),
                ((10 ** 300, "sq"), (-10 ** 300, "sq")), ((3, "one"), (2, "one"), (-5, "one")),
                ((1, "n"), (1, "n"), (-4, "half"), (-2, "rest"), (0, "sq"), (7, "nil"))]
        for at, row in enumerate(rows):
            self.assertIsNone(desk.equate(row))
            self.assertEqual(desk.equations, tuple(rows[:at + 1]))
            self.assertEqual(desk.history[-1], ("equate", row))
        self.assertIsNone(desk.release(2))
        self.assertEqual(desk.equations, (*rows[:2], *rows[3:]))
        self.assertIsNone(desk.release(index=0))
        self.assertEqual(desk.equations, (rows[1], *rows[3:]))
        self.assertIsNone(desk.equate(row=rows[0]))
        self.assertEqual(desk.equations, (rows[1], *rows[3:], rows[0]))

    def test_wrong_ones(self):
        desk = self.desk()
        desk.equate(((1, "n"), (-2, "half"), (-1, "rest")))
        for row, place in (
                (((1, "n"),), 1), (((1, "one"),), 0), (((1, "n"), (-2, "half")), 1), (((1, "n"), (-1, "sq")), 2),
                (((1, "rest"), (-1, "n")), 2), (((1, "n"), (1, "n"), (-1, "n")), 1), (((-10 ** 300, "sq"),), 1),
                (((1, "n"), (-2, "half"), (1, "rest")), 1), (((0, "n"), (1, "rest"), (0, "sq")), 1),
                (((3, "sq"), (-3, "n"), (1, "nil"), (5, "half"), (-5, "half"), (0, "one")), 2)):
            error = self.refused(desk, Refused, 1, desk.equate, row)
            self.assertIs(type(error.__cause__), Parted)
            self.assertEqual(error.__cause__.number, place)
            total = [sum(factor * desk[name](m) for factor, name in row) for m in range(place + 1)]
            self.assertEqual([m for m, worth in enumerate(total) if worth], [place])

    def test_set_that_breaks_one(self):
        desk = self.desk()
        desk["far"] = n
        desk.equate(((1, "one"), (-1, "one")))
        desk.equate(((1, "n"), (-2, "half"), (-1, "rest")))
        desk.equate(((1, "n"), (-1, "far")))
        desk.equate(((1, "rest"), (-1, "rest")))
        error = self.refused(desk, Refused, 1, desk.__setitem__, "n", n + single(9))
        self.assertEqual((type(error.__cause__), error.__cause__.number), (Parted, 9))
        error = self.refused(desk, Refused, 2, desk.__setitem__, "far", n + single(70) * 5)
        self.assertEqual(error.__cause__.number, 70)
        desk["rest"] = n - n // 2 * 2
        desk["one"] = n
        desk["sq"] = n
        desk["n"] = n // 2 * 2 + n % 2
        self.refused(desk, Refused, 1, desk.__setitem__, "rest", constant(0))
        # The name that is not yet there stands in no equation.
        desk["new"] = n * n

    def test_drop(self):
        desk = self.desk()
        desk.equate(((1, "n"), (-1, "n")))
        desk.equate(((0, "sq"), (1, "nil")))
        desk.equate(((0, "sq"),))
        for name, index in (("n", 0), ("sq", 1), ("nil", 1)):
            error = self.refused(desk, Refused, index, desk.drop, name)
            self.assertIsNone(error.__cause__)
        desk.drop("half")
        desk.release(0)
        desk.drop("n")
        self.refused(desk, Refused, 0, desk.drop, "sq")
        desk.release(0)
        self.refused(desk, Refused, 0, desk.drop, "sq")
        desk.drop("nil")
        desk.release(0)
        desk.drop("sq")
        self.assertEqual((desk.names, desk.equations), (("one", "rest"), ()))

    def test_release(self):
        desk = self.desk()
        self.refused(desk, InvalidNumber, 0, desk.release, 0)
        desk.equate(((1, "n"), (-1, "n")))
        desk.equate(((2, "n"), (-2, "n")))
        for wrong in (-1, 2, 3, 10 ** 300, -10 ** 300, *NO_INTEGERS):
            self.refused(desk, InvalidNumber, wrong, desk.release, wrong)
        self.refused(desk, Refused, 0, desk.drop, "n")
        desk.release(1)
        desk.release(0)
        desk.drop("n")

    def test_released_then_done(self):
        desk = self.desk()
        desk.equate(((1, "n"), (-2, "half"), (-1, "rest")))
        self.refused(desk, Refused, 0, desk.__setitem__, "rest", n)
        self.refused(desk, Refused, 0, desk.drop, "rest")
        desk.release(0)
        desk["rest"] = n
        desk.drop("rest")
        self.refused(desk, UnknownName, "rest", desk.equate, ((1, "n"), (-2, "half"), (-1, "rest")))

    def test_wrong_rows(self):
        desk = self.desk()
        for wrong in (*NO_TUPLES, (), tuple((0, "n") for _ in range(7)), (None,) * 7, (None,) * 100):
            self.refused(desk, InvalidValues, None, desk.equate, wrong)
        pairs = [None, 0, "n", (), (1,), (1, "n", 1), [1, "n"], ("n", 1), (1, n), n, {}, object()]
        pairs += [(1, wrong) for wrong in NO_NAMES] + [(wrong, "n") for wrong in NO_INTEGERS]
        for at in range(6):
            for wrong in pairs:
                row = [(1, "n"), (2, "sq"), (0, "none"), (-1, "n"), (0, "n"), (5, "sq")]
                row[at] = wrong
                self.refused(desk, InvalidValues, at, desk.equate, tuple(row))
                later = list(row)
                later[5] = None
                self.refused(desk, InvalidValues, at, desk.equate, tuple(later))
        self.refused(desk, UnknownName, "none", desk.equate, ((1, "n"), (0, "none"), (1, "nor")))
        self.refused(desk, UnknownName, "nor", desk.equate, ((1, "nor"), (0, "none"), (1, "n")))
        self.refused(desk, InvalidValues, 2, desk.equate, ((1, "nor"), (0, "none"), (True, "n")))

    def great(self, rank, seed=1):
        """A function of this rank, which is 1 at one number."""
        return single(2 ** (rank - 1) - 1) if rank else constant(0)

    def test_too_many(self):
        desk = Desk()
        for rank in range(17):
            desk["abcdefghijklmnopq"[rank]] = self.great(rank)
        self.assertEqual([desk[name].rank for name in desk.names], list(range(17)))
        q = "q"
        desk.equate(((1, q), (-1, q), (2, q), (-2, q)))
        desk.equate(((1, q), (-1, q), (2, q), (-2, q), (5, "a"), (0, "a")))
        desk.equate(((1, "p"), (-1, "p"), (2, "p"), (-2, "p"), (0, "c"), (0, "c")))
        # One more in the ranks, each time a name stands there, also with the factor 0, or where it would be refused.
        for row in (((1, q), (-1, q), (2, q), (-2, q), (0, "b")), ((0, q),) * 5, ((1, q),) * 5,
                    ((1, "p"), (-1, "p"), (2, "p"), (-2, "p"), (0, "c"), (0, "d"))):
            self.refused(desk, TooMany, None, desk.equate, row)
        self.refused(desk, Refused, 3, desk.equate, ((1, q), (1, q), (1, q), (1, q)))
        # An old equation becomes too great by a new function; one before it is told first.
        self.refused(desk, TooMany, None, desk.__setitem__, "a", single(0))
        self.refused(desk, TooMany, None, desk.__setitem__, "c", single(3))
        desk.equate(((3, "c"), (-3, "c")))
        self.refused(desk, TooMany, None, desk.__setitem__, "c", single(3))
        desk["b"] = self.great(16)
        desk["x"] = constant(0)
        desk.equate(((1, "x"), (1, "a")))
        desk.equate(((0, "x"), (0, "b"), (0, "b"), (0, "b"), (0, "b")))
        error = self.refused(desk, Refused, 4, desk.__setitem__, "x", single(2))
        self.assertEqual(error.__cause__.number, 2)
        desk.release(4)
        self.refused(desk, TooMany, None, desk.__setitem__, "x", single(2))
        desk["x"] = constant(0)

    def test_drawn_equations(self):
        chance = random.Random(441)
        kept = refused = 0
        for _ in range(60):
            desk = Desk()
            for name in "abc":
                desk[name] = rule(*made_rule(chance, chance.randint(1, 3)))
            factors = [chance.choice((0, 1, -1, 2, 10 ** 12, -7)) for _ in range(3)]
            total = desk["a"] * factors[0] + desk["b"] * factors[1] + desk["c"] * factors[2]
            desk["d"] = total + (0 if chance.random() < 0.5 else single(chance.randint(0, 60)) * chance.choice((1, 10 ** 30)))
            row = (*zip(factors, "abc"), (-1, "d"))
            sums = [sum(factor * desk[name](m) for factor, name in row) for m in range(100)]
            first = next((m for m, worth in enumerate(sums) if worth), None)
            if first is None:
                desk.equate(row)
                kept += 1
            else:
                error = self.refused(desk, Refused, 0, desk.equate, row)
                self.assertEqual(error.__cause__.number, first)
                refused += 1
        self.assertGreater(kept, 15)
        self.assertGreater(refused, 15)


class DoAllTest(DeskTest):
    DEEDS = (("set", "n", n), ("set", "half", n // 2), ("set", "rest", n % 2),
             ("equate", ((1, "n"), (-2, "half"), (-1, "rest"))), ("set", "x", n), ("drop", "x"), ("release", 0))

    def test_document(self):
        desk = Desk()
        self.assertEqual(desk.do_all(*self.DEEDS[:4]), 4)
        desk.undo()
        self.assertEqual((desk.names, desk.equations, desk["half"](9), len(desk.history)), (("half", "n", "rest"), (), 4, 3))

    def test_all(self):
        for many in range(8):
            desk = Desk()
            done = desk.do_all(*self.DEEDS[:many])
            self.assertEqual((done, type(done)), (many, int))
            self.assertEqual((desk.history, desk.busy), (self.DEEDS[:many], False))
            other = Desk()
            for deed in self.DEEDS[:many]:
                self.assertEqual(other.do_all(deed, watch=None), 1)
            self.assertEqual(state(other), state(desk))

    def test_or_none(self):
        wrong = (
            (("set", "", n), InvalidName, ""), (("set", "a", 5), NotAFunction, 5), (("drop", ""), InvalidName, ""),
            (("drop", "zz"), UnknownName, "zz"), (("equate", ()), InvalidValues, None), (("equate", ((1, "zz"),)), UnknownName, "zz"),
            (("release", 7), InvalidNumber, 7), (("equate", ((1, "keep"),)), Refused, 1), (("drop", "keep"), Refused, 0),
            (("set", "keep", n + 1), Refused, 0), (("equate", ((0, "big"),) * 5), TooMany, None))
        for deed, error, field in wrong:
            for many in range(7):
                desk = Desk()
                desk.do_all(("set", "keep", n), ("equate", ((1, "keep"), (-1, "keep"), (0, "keep"))), ("set", "same", n),
                            ("set", "big", single(2 ** 15 - 1)), ("drop", "same"), ("set", "same", n))
                if error is Refused and deed[0] == "set":
                    desk.do_all(("release", 0), ("equate", ((1, "keep"), (-1, "same"))))
                deeds = [("set", "abcdefg"[at], n * at) for at in range(many)]
                found = self.refused(desk, error, field, desk.do_all, *deeds, deed, ("set", "later", 5), ("drop", "nothing"))
                if error is Refused and deed[0] != "drop":
                    self.assertIs(type(found.__cause__), Parted)

    def test_two_wrong_things(self):
        """The first deed that is wrong tells the error, but what is no deed comes ahead of all."""
        desk = Desk()
        self.refused(desk, InvalidName, "", desk.do_all, ("set", "", 5), ("drop", "a"))
        self.refused(desk, UnknownName, "a", desk.do_all, ("set", "b", n), ("drop", "a"), ("set", "", 5))
        self.refused(desk, InvalidDeeds, 1, desk.do_all, ("set", "", 5), ("drop",))
        self.refused(desk, NotAFunction, None, desk.do_all, ("set", "a", None), ("set", "", None))

    def test_no_deeds(self):
        desk = Desk()
        wrong = [None, True, 0, "set", (), ("set",), ("set", "a"), ("set", "a", n, n), ("drop",), ("drop", "a", "a"), ("equate",),
                 ("equate", (), ()), ("release",), ("release", 0, 0), ["set", "a", n], ("Set", "a", n), ("", "a"), (b"set", "a", n),
                 (None, "a", n), (0, "a"), ("undo",), ("undo", 1), ("do_all",), ("set ", "a", n), (n, "a", n), (("set",), "a", n),
                 (["set"], "a", n), ({}, "a"), object(), n, desk, ("drop", ), {"set": 1}, 1 + 0j]
        for thing in wrong:
            for many in (0, 1, 3):
                deeds = [("set", "", None)] * many
                self.refused(desk, InvalidDeeds, many, desk.do_all, *deeds, thing, ("drop", "a"))
                self.refused(desk, InvalidDeeds, many, desk.do_all, *deeds, thing, None)

    def test_watch(self):
        desk = Desk()
        seen = []

        def watch(given):
            self.assertIs(given, desk)
            self.assertIs(given.busy, True)
            seen.append((given.names, given.equations, given.history))

        self.assertEqual(desk.do_all(*self.DEEDS, watch=watch), 7)
        self.assertEqual(len(seen), 7)
        for at, (names, equations, history) in enumerate(seen):
            other = Desk()
            for deed in self.DEEDS[:at + 1]:
                other.do_all(deed)
            self.assertEqual((names, equations, history), (other.names, other.equations, other.history))
        self.assertIs(desk.busy, False)
        self.assertEqual(desk.do_all(watch=watch), 0)
        self.assertEqual(len(seen), 7)
        with self.assertRaises(InvalidName):
            desk.do_all(("set", "q", n), ("set", "", n), ("set", "r", n), watch=watch)
        self.assertEqual(len(seen), 8)
        self.assertEqual((seen[-1][0][-2:], "q" in desk), (("q", "rest"), False))
        with self.assertRaises(InvalidDeeds):
            desk.do_all(("set", "q", n), None, watch=watch)
        self.assertEqual(len(seen), 8)

    def test_busy(self):
        desk = Desk()
        desk["a"] = n
        asked = []

        def watch(given):
            before = state(given)
            for other in (given, desk):
                for call in (
                        lambda: other.__setitem__("b", n), lambda: other.__setitem__("", None), lambda: other.drop("a"),
                        lambda: other.drop(""), lambda: other.equate(()), lambda: other.equate(((1, "a"),)),
                        lambda: other.release(0), lambda: other.release(None), lambda: other.undo(), lambda: other.undo(times=0),
                        lambda: other.undo(times=None), lambda: other.undo(times=100), lambda: other.do_all(),
                        lambda: other.do_all(None), lambda: other.do_all(("set", "b", n), watch=watch)):
                    self.raised(Busy, None, call)
                    self.assertEqual(state(other), before)
            # Questions are answered.
            asked.append((given["a"](5), "a" in given, "zz" in given))
            self.raised(UnknownName, "zz", lambda: given["zz"])
            # Another desk is not busy.
            second = Desk()
            second["z"] = n
            self.assertEqual(second.do_all(("drop", "z")), 1)

        desk.do_all(("set", "c", n), ("set", "d", n), watch=watch)
        self.assertEqual(asked, [(5, True, False)] * 2)
        desk["e"] = n
        self.assertEqual(desk.names, ("a", "c", "d", "e"))

    def test_what_watch_raises(self):
        class Own(Exception):
            pass

        for error in (Own("x"), ValueError(), KeyError("k"), ZeroDivisionError(), Busy(), Refused(7), InvalidName("a"), TooMany(),
                      Parted(1), KeyboardInterrupt(), SystemExit(), GeneratorExit()):
            for place in range(3):
                desk = Desk()
                desk.do_all(("set", "a", n), ("equate", ((1, "a"), (-1, "a"))))
                before = state(desk)
                calls = []

                def watch(given):
                    calls.append(given.names)
                    if len(calls) == place + 1:
                        raise error

                with self.assertRaises(type(error)) as held:
                    desk.do_all(("set", "b", n), ("drop", "b"), ("release", 0), ("set", "c", n), watch=watch)
                self.assertIs(held.exception, error)
                self.assertEqual(len(calls), place + 1)
                self.assertEqual(state(desk), before)
                desk["z"] = n
                self.assertEqual(desk.names, ("a", "z"))

    def test_busy_of_watch_that_is_caught(self):
        desk = Desk()

        def watch(given):
            with self.assertRaises(Busy):
                given["x"] = n

        self.assertEqual(desk.do_all(("set", "a", n), ("set", "b", n), watch=watch), 2)
        self.assertEqual(desk.names, ("a", "b"))

    def test_watch_by_name_only(self):
        desk = Desk()
        self.raised(InvalidDeeds, 0, desk.do_all, lambda given: None)
        self.raised(InvalidDeeds, 1, desk.do_all, ("set", "a", n), print)
        with self.assertRaises(TypeError):
            desk.do_all(deeds=())
        with self.assertRaises(TypeError):
            desk.undo(1)


class UndoTest(DeskTest):
    def test_undo(self):
        deeds = DoAllTest.DEEDS
        desk = Desk()
        states = [state(desk)]
        for deed in deeds:
            desk.do_all(deed)
            states.append(state(desk))
        for times in (1, 2, 3, 7):
            desk = Desk()
            desk.do_all(*deeds)
            self.assertIsNone(desk.undo(times=times))
            self.assertEqual(state(desk), states[len(deeds) - times])
            desk.do_all(*deeds[len(deeds) - times:])
            self.assertEqual(state(desk), states[-1])
        desk = Desk()
        desk.do_all(*deeds[:3])
        desk.do_all(*deeds[3:])
        for at in reversed(range(7)):
            desk.undo()
            self.assertEqual(state(desk), states[at])
        self.refused(desk, NothingToUndo, None, desk.undo)

    def test_wrong_times(self):
        desk = Desk()
        desk.do_all(*DoAllTest.DEEDS[:3])
        for wrong in (0, -1, -10 ** 300, *NO_INTEGERS):
            self.refused(desk, InvalidNumber, wrong, lambda: desk.undo(times=wrong))
        for many in (4, 5, 10 ** 300):
            self.refused(desk, NothingToUndo, None, lambda: desk.undo(times=many))
        desk.undo(times=3)
        for wrong in (0, True):
            self.refused(desk, InvalidNumber, wrong, lambda: desk.undo(times=wrong))
        self.refused(desk, NothingToUndo, None, desk.undo)

    def test_deeds_behind_an_undo(self):
        desk = Desk()
        desk["a"] = n
        desk["a"] = n * 2
        desk.undo()
        self.assertEqual(desk["a"], n)
        desk["a"] = n * 3
        self.assertEqual(desk.history, (("set", "a", n), ("set", "a", n * 3)))
        desk.undo(times=2)
        self.assertEqual((desk.names, desk.history), ((), ()))


class DrawnTest(DeskTest):
    def plain_sum(self, row, desk, many=40):
        return [sum(factor * desk[name](m) for factor, name in row) for m in range(many)]

    def drawn_deed(self, chance, desk, functions):
        word = chance.choice(("set", "set", "set", "drop", "equate", "equate", "release"))
        name = chance.choice(("a", "b", "c", "d", "e"))
        if word == "set":
            return word, name, chance.choice(functions)
        if word == "drop":
            return word, name
        if word == "release":
            return word, chance.randint(-1, len(desk.equations))
        names = [chance.choice("abcde") for _ in range(chance.randint(1, 4))]
        return word, tuple((chance.randint(-2, 2), each) for each in names)

    def test_drawn_deeds(self):
        chance = random.Random(442)
        functions = [constant(0), constant(1), constant(2), n, n * 2, n // 2, n % 2, n - 1, n // 2 * 2, single(3)]
        done = refused = undone = 0
        for _ in range(30):
            desk = Desk()
            deeds = []
            for _ in range(60):
                deed = self.drawn_deed(chance, desk, functions)
                before = state(desk)
                try:
                    desk.do_all(deed)
                    deeds.append(deed)
                    done += 1
                except Refused as error:
                    refused += 1
                    self.assertEqual(state(desk), before)
                    self.assertLessEqual(error.index, len(desk.equations))
                except (UnknownName, InvalidNumber):
                    self.assertEqual(state(desk), before)
                for row in desk.equations:
                    self.assertEqual(set(self.plain_sum(row, desk)), {0})
                    self.assertEqual(sum(factor * desk[name](10 ** 40) for factor, name in row), 0)
                if deeds and chance.random() < 0.2:
                    times = chance.randint(1, min(3, len(deeds)))
                    desk.undo(times=times)
                    del deeds[-times:]
                    undone += times
                self.assertEqual(desk.history, tuple(deeds))
            other = Desk()
            self.assertEqual(other.do_all(*desk.history), len(deeds))
            self.assertEqual(state(other), state(desk))
        self.assertGreater(done, 700)
        self.assertGreater(refused, 100)
        self.assertGreater(undone, 100)


if __name__ == "__main__":
    unittest.main()
