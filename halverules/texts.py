"""The texts of least rules."""

from halverules.broken import share_of
from halverules.errors import InvalidText
from halverules.halved import Halved, check_function
from halverules.least import least_rule
from halverules.limits import RANK
from halverules.reading import integer_in
from halverules.whole import whole_rule

NOTHING = "0"


def least_text(f):
    """The text of the least rule."""
    check_function(f)
    return rule_text(f.basis, f.equations, f.firsts)


def rule_text(basis, equations, firsts):
    """The text of a rule that is told by basic parts, their equations and their first values."""
    labels = [part_text(part) for part in basis]
    rows = [f"rank {len(labels)}"]
    for label, first, (even, odd) in zip(labels, firsts, equations):
        rows.append(f"{label} = {first}; {sum_text(even, labels)}; {sum_text(odd, labels)}")
    return "\n".join(rows)


def part_text(part):
    """The text of a basic part."""
    depth, start = part
    return f"f[{1 << depth}, {start}]"


def sum_text(row, labels):
    """The text of the sum of these fractions times the parts with these labels."""
    terms = [f"{fraction_text(pair)} {label}" for pair, label in zip(row, labels) if pair[0] != 0]
    return " + ".join(terms) if terms else NOTHING


def fraction_text(pair):
    """The text of a fraction."""
    top, bottom = pair
    return str(top) if bottom == 1 else f"{top}/{bottom}"


def read_least(text):
    """The function with such a text."""
    function = function_in(text) if isinstance(text, str) else None
    if function is None:
        raise InvalidText(text)
    return function


def function_in(text):
    """The function with this text, None if there is none."""
    told = rule_in(text)
    if told is None:
        return None
    basis, equations, firsts = told
    # Whatever was read too freely is found here: each rule has just one text.
    if rule_text(basis, equations, firsts) != text:
        return None
    evens, odds = [[share_of(halves[digit]) for halves in equations] for digit in (0, 1)]
    made = whole_rule(evens, odds, list(firsts))
    if made is None:
        return None
    lines, mix = made
    return Halved(lines, mix, told) if least_rule(lines, mix) == told else None


def rule_in(text):
    """The basic parts, equations and first values that a text tells, None if it is not written like one."""
    head, *rows = text.split("\n")
    if len(rows) > RANK or head != f"rank {len(rows)}":
        return None
    places = {}
    tails = []
    for row in rows:
        label, _, tail = row.partition(" = ")
        places[label] = len(tails)
        tails.append(tail.split("; "))
    # A label that stands there twice leaves fewer of them.
    if len(places) != len(rows) or not all([len(tail) == 3 for tail in tails]):
        return None
    basis = [part_in(label) for label in places]
    firsts = [integer_in(first) for first, _, _ in tails]
    evens = [row_in(even, places) for _, even, _ in tails]
    odds = [row_in(odd, places) for _, _, odd in tails]
    if None in basis or None in firsts or None in evens or None in odds:
        return None
    return tuple(basis), tuple(zip(evens, odds)), tuple(firsts)


def part_in(label):
    """The part that is written so, None if it is none."""
    step, _, start = label.removeprefix("f[").removesuffix("]").partition(", ")
    numbers = [integer_in(step), integer_in(start)]
    if None in numbers or numbers[0] < 1:
        return None
    return numbers[0].bit_length() - 1, numbers[1]


def row_in(text, places):
    """The row of fractions of the parts with these labels that the text of a sum tells, None if it is none."""
    row = [(0, 1) for _ in places]
    terms = [] if text == NOTHING else text.split(" + ")
    for term in terms:
        factor, _, label = term.partition(" ")
        pair = fraction_in(factor)
        if pair is None or label not in places:
            return None
        row[places[label]] = pair
    return tuple(row)


def fraction_in(text):
    """The pair that is written so, None if it is none."""
    over, sign, under = text.partition("/")
    top = integer_in(over)
    bottom = integer_in(under) if sign else 1
    if top is None or bottom is None or bottom < 1:
        return None
    return top, bottom
