"""Functions that are told by one another, at n and beside it, in a text."""

from halverules.checks import is_name
from halverules.errors import InvalidText
from halverules.halved import function_of
from halverules.limits import APART, ENTRY, FIRSTS, RECURRENCES, TERMS
from halverules.lines import Lines, sum_of
from halverules.reading import small_integer_in
from halverules.systems import beside, single_lines

# The lines are the functions at n + c for all c from -FAR to FAR: what they are at 2 n hangs on no others.
FAR = 4
BESIDE = 9

# For so many n the lines are at 2 n or 2 n + 1 what the first values tell, or 0 where n + c is less than 0.
SINGLES = 4

# In a term these stand for no function, but for 1 and for n; they are no names.
ONE = "1"
NUMBER = "1 n"


class Recursion:
    """The first values of a function, and its even and its odd sum, as a pair.

    A sum is a list of terms: a factor, the name of a function, ONE or NUMBER, and the S of a function at n + S.
    """

    def __init__(self, starts, halves):
        self.starts = starts
        self.halves = halves


def solved(text):
    """The pairs of a name and its function, names ascending, for a text that tells functions by one another."""
    told = recursions_in(text) if isinstance(text, str) else None
    if told is None or not all([is_told(told[name], told) for name in told]):
        raise InvalidText(text)
    lines = beside(recursion_lines(told), further_lines())
    return tuple([(name, function_of(lines, {BESIDE * at + FAR: 1})) for at, name in enumerate(told)])


def recursions_in(text):
    """The recursion of each name, None if they are not written so."""
    rows = text.split("\n")
    if len(rows) % 3 != 0 or len(rows) > 3 * RECURRENCES:
        return None
    told = {}
    before = ""
    for at in range(0, len(rows), 3):
        name = rows[at].partition(" ")[0]
        recursion = recursion_in(name, rows[at:at + 3])
        if recursion is None or not is_name(name) or not before < name:
            return None
        told[name] = recursion
        before = name
    return told


def recursion_in(name, rows):
    """The recursion of this name that three rows tell, None if they are not written so."""
    heads = [row.partition(" = ")[0] for row in rows]
    firsts, even, odd = [row.partition(" = ")[2] for row in rows]
    if heads != [name, f"{name} even", f"{name} odd"]:
        return None
    values = [small_integer_in(word, ENTRY) for word in firsts.split(" ")]
    sums = (sum_in(even), sum_in(odd))
    if len(values) > FIRSTS or None in values or None in sums:
        return None
    return Recursion(values, sums)


def sum_in(text):
    """The terms of a sum, None if it is not written so."""
    if text == "0":
        return []
    terms = [term_in(term) for term in text.split(" + ")]
    if len(terms) > TERMS or None in terms:
        return None
    return terms


def term_in(text):
    """The term that is written so, None if there is none."""
    word, more, thing = text.partition(" ")
    factor = small_integer_in(word, ENTRY)
    if factor is None or factor == 0:
        return None
    if not more:
        return factor, ONE, 0
    if thing == "n":
        return factor, NUMBER, 0
    name, _, place = thing.partition("[")
    apart = small_integer_in(place.removesuffix("]"), APART)
    if not is_name(name) or apart is None or thing != f"{name}[{apart}]":
        return None
    return factor, name, apart


def is_told(recursion, told):
    """Whether the sums of a recursion have only names that are told, at numbers from 0 on that are less."""
    many = len(recursion.starts)
    for digit in (0, 1):
        # Where it holds for the least n from the first values on, it does for all further ones.
        n = (many - digit + 1) // 2
        for _, name, apart in recursion.halves[digit]:
            if name not in (ONE, NUMBER) and (name not in told or not 0 <= n + apart < 2 * n + digit):
                return False
    return True


def recursion_lines(told):
    """For each function in its order the functions at n + c for all c, 0 where this is less than 0.

    Behind them are meant to stand the lines of further_lines.
    """
    values = first_values(told)
    columns = [column_at(values, n) for n in range(SINGLES)]
    places = {name: BESIDE * at + FAR for at, name in enumerate(told)}
    further = BESIDE * len(told)
    evens = []
    odds = []
    for name in told:
        for offset in range(-FAR, FAR + 1):
            even, odd = [recursion_mix(told[name], offset + digit, places, further) for digit in (0, 1)]
            evens.append({**even, **repairs(even, told[name], offset, values[name], columns)})
            odds.append({**odd, **repairs(odd, told[name], offset + 1, values[name], columns)})
    return Lines(evens, odds, columns[0][:further])


def first_values(told):
    """For each name the values of its function at the first numbers."""
    values = {name: [] for name in told}
    for n in range(SINGLES + FAR):
        for name in told:
            values[name].append(value_told(told[name], n, values))
    return values


def value_told(recursion, n, values):
    """The value at n that a recursion tells, if all values at lesser numbers are known."""
    if n < len(recursion.starts):
        return recursion.starts[n]
    terms = recursion.halves[n % 2]
    return sum([factor * thing_at(thing, n // 2, apart, values) for factor, thing, apart in terms])


def thing_at(thing, n, apart, values):
    """What a term has besides its factor, at n."""
    if thing == ONE:
        return 1
    if thing == NUMBER:
        return n
    return values[thing][n + apart]


def column_at(values, n):
    """The values at n of all lines but those that are 1 at one number only."""
    column = []
    for name in values:
        for at in range(n - FAR, n + FAR + 1):
            column.append(values[name][at] if at >= 0 else 0)
    return [*column, n, 1]


def recursion_mix(recursion, offset, places, further):
    """The mix of lines at n that the sums tell of the function at 2 n + offset."""
    half, digit = divmod(offset, 2)
    mix = {}
    for factor, thing, apart in recursion.halves[digit]:
        if thing == ONE:
            mix[further + 1] = mix.get(further + 1, 0) + factor
        elif thing == NUMBER:
            mix[further] = mix.get(further, 0) + factor
            mix[further + 1] = mix.get(further + 1, 0) + factor * half
        else:
            at = places[thing] + half + apart
            mix[at] = mix.get(at, 0) + factor
    return {at: mix[at] for at in mix if mix[at] != 0}


def repairs(mix, recursion, offset, values, columns):
    """The multiples of the lines that are 1 at one number only by which the mix is right there, too."""
    repaired = {}
    for n, column in enumerate(columns):
        place = 2 * n + offset
        if place < len(recursion.starts):
            worth = values[place] if place >= 0 else 0
            repaired[len(column) + n] = worth - sum_of(mix, column)
    return {at: repaired[at] for at in repaired if repaired[at] != 0}


def further_lines():
    """The function n, the function 1, and those that are 1 at 0, at 1, .. only."""
    return beside(Lines([{0: 2}, {1: 1}], [{0: 2, 1: 1}, {1: 1}], [0, 1]), single_lines(SINGLES))
