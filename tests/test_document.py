"""The examples of the document, to the letter."""

import unittest

EXAMPLES = [
    (
        """
from halverules.halved import constant, number, single
n = number()
f = n * n - n // 2 * 3 + single(4)
[f(7), f(4), f(1000), n.rank, f.rank, (n % 2)(7), (n << 3)(4), (n >> 3)(2), n[3, 1] == n * 3 + 1, n // 2 * 2 + n % 2 == n]
""",
        "[40, 11, 998500, 2, 7, 1, 7, 0, True, True]",
    ),
    (
        """
from halverules.halved import constant, number
n = number()
[n.basis, n.equations, n.firsts, constant(5).equations, constant(0).rank, repr(n), (n - n) == constant(0), bool(n - n)]
""",
        "[((0, 0), (1, 1)), ((((2, 1), (0, 1)), ((0, 1), (1, 1))), (((2, 1), (1, 1)), ((-2, 1), (3, 1)))), (0, 1), "
        "((((1, 1),), ((1, 1),)),), 0, 'Halved(2)', True, False]",
    ),
]


class DocumentTest(unittest.TestCase):
    def test_examples(self):
        for code, printed in EXAMPLES:
            *lines, last = code.strip().split("\n")
            names = {}
            exec("\n".join(lines), names)
            self.assertEqual(repr(eval(last, names)), printed)


if __name__ == "__main__":
    unittest.main()
