"""The examples of the document, to the letter."""

import unittest

EXAMPLES = [
    """
>>> from halverules.halved import constant, number, single
>>> n = number()
>>> f = n * n - n // 2 * 3 + single(4)
>>> [f(7), f(4), f(1000), n.rank, f.rank, (n % 2)(7), (n << 3)(4), (n >> 3)(2), n[3, 1] == n * 3 + 1, n // 2 * 2 + n % 2 == n]
[40, 11, 998500, 2, 7, 1, 7, 0, True, True]
""",
    """
>>> from halverules.halved import constant, number
>>> n = number()
>>> [n.basis, n.equations, n.firsts, constant(5).equations, constant(0).rank, repr(n), (n - n) == constant(0), bool(n - n)]
[((0, 0), (1, 1)), ((((2, 1), (0, 1)), ((0, 1), (1, 1))), (((2, 1), (1, 1)), ((-2, 1), (3, 1)))), (0, 1), ((((1, 1),), ((1, 1),)),), 0, 'Halved(2)', True, False]
""",
    """
>>> from halverules.halved import constant, number
>>> from halverules.rules import rule
>>> ones = rule(((1, 0), (0, 1)), ((1, 1), (0, 1)), (0, 1), (1, 0))
>>> [ones(0), ones(7), ones(2 ** 200 - 1), ones.rank, ones == ones // 2 + number() % 2, ones.basis]
[0, 3, 200, 2, True, ((0, 0), (1, 1))]
""",
    """
>>> from halverules.rules import rule
>>> rule(((2,),), ((1,),), (1,), (1,))
raises NotFitting(index=0)
""",
    """
>>> from halverules.costs import costs
>>> from halverules.halved import number
>>> n = number()
>>> merges, looks = costs(1, 1, n - 1, (0, 0)), costs(1, 0, 1, (0, 1))
>>> [merges(5), merges(8), merges(1024), looks(1023), looks == looks // 2 + 1, merges << 1 == merges]
[8, 17, 9217, 10, False, False]
""",
    """
>>> from halverules.halved import number
>>> from halverules.loops import from_high, from_low
>>> high = from_high((0, 1), ((2, 0), (0, 1)), ((2, 1), (0, 1)), (1, 0))
>>> low = from_low((0, 1), ((1, 0), (0, 2)), ((1, 1), (0, 2)), (1, 0))
>>> turned = from_low((0, 1), ((2, 0), (0, 1)), ((2, 1), (0, 1)), (1, 0))
>>> [high == number(), low == number(), turned(6), turned(8), turned == number()]
[True, True, 3, 1, False]
""",
    """
>>> from halverules.halved import constant, number
>>> from halverules.sums import sums
>>> n = number()
>>> [sums(constant(1)) == n, sums(n) * 2 == n * n - n, sums(n % 2) == n // 2, sums(n // 2)(7)]
[True, True, True, 9]
""",
    """
>>> from halverules.halved import constant, number, single
>>> from halverules.relations import new_numbers, parting, relations
>>> n = number()
>>> [parting(n, n + single(12)), parting(n * n, n * n), new_numbers(n), new_numbers(n % 2, n), relations(constant(2), n, n // 2 * 4 + n % 2 * 2, n * 3 - 5)]
[12, None, (0, 1), (0, 1, 2), ((0, -2, 1, 0), (5, -6, 0, 2))]
""",
    """
>>> from halverules.halved import number
>>> from halverules.learning import told_back
>>> back = told_back((0, 1, 2, 3, 4, 5, 6, 7, 8, 9, 10, 11, 12, 13, 14, 15))
>>> [back == number(), told_back((0, 1, 2, 3)), told_back((5, 5, 5, 5)).rank, told_back((1, 0, 0, 0))(10 ** 9), told_back((1, 2, 2, 4))(7)]
[True, None, 1, 0, 8]
""",
    """
>>> from halverules.halved import number
>>> from halverules.numbers import Numbers, where
>>> n = number()
>>> threes, odd = where(n, 3, 0), where(n * n, 8, 1)
>>> [12 in threes, 13 in threes, odd == where(n, 2, 1), (threes & odd).least, threes.count(100), threes.kth(10 ** 20), threes.states, (~odd).indicator() == 1 - n % 2, Numbers.told(2, 5).is_finite]
[True, False, True, 3, 34, 300000000000000000000, 3, True, True]
""",
    r"""
>>> from halverules.halved import number
>>> from halverules.texts import least_text, read_least
>>> text = least_text(number())
>>> [text, read_least(text) == number()]
['rank 2\nf[1, 0] = 0; 2 f[1, 0]; 1 f[2, 1]\nf[2, 1] = 1; 2 f[1, 0] + 1 f[2, 1]; -2 f[1, 0] + 3 f[2, 1]', True]
""",
    r"""
>>> from halverules.recurrences import solved
>>> text = "s = 0 1\ns even = 1 s[0]\ns odd = 1 s[0] + 1 s[1]"
>>> name, stern = solved(text)[0]
>>> [name, stern(5), stern(2 ** 100 + 1), stern.rank, (stern << 1)(4)]
['s', 3, 101, 2, 3]
""",
    """
>>> from halverules.halved import number
>>> from halverules.values import all_values, at_value, bounded
>>> n = number()
>>> f = n - n // 3 * 3 - n % 2
>>> [all_values(f), at_value(f, 2).least, at_value(f, 2).count(60), bounded(f, -1, 2), bounded(f, 0, 2), bounded(n, 0, 100)]
[(-1, 0, 1, 2), 2, 10, None, 3, 101]
""",
    """
>>> from halverules.along import along, index, powers
>>> from halverules.costs import costs
>>> from halverules.halved import number
>>> merges = costs(1, 1, number() - 1, (0, 0))
>>> row, twos = along(merges, 1), powers(2)
>>> [row == (index() - 1) * twos + 1, row.recurrence, row.firsts, row(20), (row << 1) == row * 2 + 2 * twos - 1, along(merges, 3)(2)]
[True, (5, -8, 4), (0, 1, 5), 19922945, True, 33]
""",
    """
>>> from halverules.desks import Desk
>>> from halverules.halved import number
>>> desk, n = Desk(), number()
>>> done = desk.do_all(("set", "n", n), ("set", "half", n // 2), ("set", "rest", n % 2), ("equate", ((1, "n"), (-2, "half"), (-1, "rest"))))
>>> desk.undo()
>>> [done, desk.names, desk.equations, desk["half"](9), len(desk.history)]
[4, ('half', 'n', 'rest'), (), 4, 3]
""",
    """
>>> from halverules.desks import Desk
>>> from halverules.halved import number
>>> desk, n = Desk(), number()
>>> done = desk.do_all(("set", "a", n), ("set", "b", n // 2), ("equate", ((1, "a"), (-1, "a"))))
>>> desk.equate(((1, "a"), (-2, "b")))
raises Refused(index=1)
""",
    """
>>> from halverules.certificates import certify_parting, certify_rests, plain_rule
>>> from halverules.checker import accepts
>>> from halverules.halved import constant, number
>>> n = number()
>>> claim, certificate = certify_parting(n * n % 4, n % 2)
>>> saying, paper = certify_rests(n * n, 4)
>>> [claim[0], accepts(claim, certificate), accepts(claim, ()), saying[2:], accepts(saying, paper), certify_parting(n, n * n)[0][3], plain_rule(constant(3))]
['same', True, False, (4, (0, 1)), True, 2, ((((1, 1),),), (((1, 1),),), (3,), ((1, 1),))]
""",
    """
>>> from halverules.console import Console
>>> console = Console()
>>> [console.say("n = number"), console.say("h = n // 2"), console.say("s = sums h"), console.say("s at 7"), console.say("h and n"), console.say("n by 3 is 0 below 100"), console.say("equate 1 n + -1 n")]
['rank 2', 'rank 3', 'rank 4', '9', 'apart at 1', '34', 'ok']
""",
]


def shown(error):
    """An error as the document writes it."""
    fields = ", ".join(f"{name}={value!r}" for name, value in vars(error).items())
    return f"raises {type(error).__name__}({fields})"


def printed(block):
    """What the last line of an example gives, and what the document says that it gives."""
    *lines, wanted = block.strip().split("\n")
    *lines, last = [line.removeprefix(">>> ") for line in lines]
    names = {}
    exec("\n".join(lines), names)
    try:
        return repr(eval(last, names)), wanted
    except (ValueError, LookupError, ArithmeticError) as error:
        return shown(error), wanted


class DocumentTest(unittest.TestCase):
    def test_examples(self):
        for block in EXAMPLES:
            got, wanted = printed(block)
            self.assertEqual(got, wanted)


if __name__ == "__main__":
    unittest.main()
