"""The texts of least rules."""

from halverules.broken import share_of
from halverules.errors import InvalidText
from halverules.halved import Halved, check_function
from halverules.least import least_rule
from halverules.limits import RANK
from halverules.reading import integer_in
from halverules.whole import whole_rule

NOTHING = "0"


def least_text(f):
    """The text of the least rule."""
    check_function(f)
    labels = [part_text(part) for part in f.basis]
    rows = [f"rank {f.rank}"]
    for label, first, (even, odd) in zip(labels, f.firsts, f.equations):
        rows.append(f"{label} = {first}; {sum_text(even, labels)}; {sum_text(odd, labels)}")
    return "\n".join(rows)


def part_text(part):
    """The text of a basic part."""
    depth, start = part
    return f"f[{1 << depth}, {start}]"


def sum_text(row, labels):
    """The text of the sum of these fractions times the parts with these labels."""
    terms = [f"{fraction_text(pair)} {label}" for pair, label in zip(row, labels) if pair[0] != 0]
    return " + ".join(terms) if terms else NOTHING


def fraction_text(pair):
    """The text of a fraction."""
    top, bottom = pair
    return str(top) if bottom == 1 else f"{top}/{bottom}"


def read_least(text):
    """The function with such a text."""
    function = function_in(text) if isinstance(text, str) else None
    # Whatever was read too freely is found here: each function has just one text.
    if function is None or least_text(function) != text:
        raise InvalidText(text)
    return function


def function_in(text):
    """The function that a text tells, None if none is told."""
    told = lines_in(text)
    if told is None:
        return None
    evens, odds, firsts = told
    made = whole_rule([share_of(even) for even in evens], [share_of(odd) for odd in odds], firsts)
    if made is None:
        return None
    lines, mix = made
    return Halved(lines, mix, least_rule(lines, mix))


def lines_in(text):
    """The even rows, the odd rows and the first values that a text tells, None if it is not written like one."""
    head, *rows = text.split("\n")
    if len(rows) > RANK or head != f"rank {len(rows)}":
        return None
    labels = {}
    tails = []
    for row in rows:
        label, _, tail = row.partition(" = ")
        labels[label] = len(tails)
        tails.append(tail.split("; "))
    # A label that stands there twice leaves fewer of them.
    if len(labels) != len(rows) or not all([len(tail) == 3 for tail in tails]):
        return None
    firsts = [integer_in(first) for first, _, _ in tails]
    evens = [row_in(even, labels) for _, even, _ in tails]
    odds = [row_in(odd, labels) for _, _, odd in tails]
    if None in firsts or None in evens or None in odds:
        return None
    return evens, odds, firsts


def row_in(text, labels):
    """The row of fractions that the text of a sum tells, None if it is none."""
    row = [(0, 1) for _ in labels]
    if text == NOTHING:
        return row
    for term in text.split(" + "):
        factor, _, label = term.partition(" ")
        pair = fraction_in(factor)
        if pair is None or label not in labels:
            return None
        row[labels[label]] = pair
    return row


def fraction_in(text):
    """The pair that is written so, None if it is none."""
    over, sign, under = text.partition("/")
    top = integer_in(over)
    bottom = integer_in(under) if sign else 1
    if top is None or bottom is None or bottom < 1:
        return None
    return top, bottom
