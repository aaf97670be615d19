"""A console: lines of text by which functions are made on a desk, changed and asked."""

from halverules.checks import is_between, is_name, is_number
from halverules.desks import Desk
from halverules.errors import InvalidCommand, InvalidNumber
from halverules.halved import constant, number, single
from halverules.limits import EQUATED, MODULUS
from halverules.numbers import where
from halverules.reading import integer_in
from halverules.relations import parting
from halverules.sums import sums
from halverules.texts import least_text

DONE = "ok"

# What stands in a form for a name and for an integer.
NAME = "B"
INTEGER = "K"


class Console:
    """A desk, and the lines that are executed on it."""

    def __init__(self):
        self._desk = Desk()

    @property
    def desk(self):
        """The desk."""
        return self._desk

    def say(self, line):
        """Executes a line and returns the answer."""
        words = line.split(" ") if isinstance(line, str) else []
        if len(words) > 2 and words[1] == "=" and is_name(words[0]):
            function = made_by(self._desk, words[2:])
            if function is not None:
                self._desk[words[0]] = function
                return f"rank {function.rank}"
        form, things = form_in(words, list(ANSWERS))
        if form is not None:
            answer = ANSWERS[form]
            return answer(self._desk, things)
        row = equation_in(words)
        if row is None:
            raise InvalidCommand(line)
        self._desk.equate(row)
        return DONE


def made_by(desk, words):
    """The function that the words behind `A =` tell, None if they tell none."""
    part = part_in(" ".join(words))
    if part is not None:
        return make_part(desk, part)
    form, things = form_in(words, list(MAKERS))
    if form is None:
        return None
    make = MAKERS[form]
    return make(desk, things)


def part_in(text):
    """The name and the pair that `B[K, N]` tells, None if the text is not written so."""
    name, _, tail = text.partition("[")
    numbers = [integer_in(word) for word in tail.removesuffix("]").split(", ")]
    if not is_name(name) or len(numbers) != 2 or None in numbers or tail != f"{numbers[0]}, {numbers[1]}]":
        return None
    return [name, (numbers[0], numbers[1])]


def form_in(words, forms):
    """The form that the words have, None without any, and the names and integers that stand in it."""
    for form in forms:
        kinds = form.split(" ")
        things = things_in(words, kinds) if len(words) == len(kinds) else None
        if things is not None:
            return form, things
    return None, []


def things_in(words, kinds):
    """The names and integers among the words, None if a word is not of its kind."""
    things = []
    for word, kind in zip(words, kinds):
        if kind == NAME:
            thing = word if is_name(word) else None
        elif kind == INTEGER:
            thing = integer_in(word)
        elif word == kind:
            continue
        else:
            return None
        if thing is None:
            return None
        things.append(thing)
    return things


def equation_in(words):
    """The row of pairs that the words of `equate K1 A1 + K2 A2 + ..` tell, None if they are none."""
    if words[:1] != ["equate"] or len(words) % 3 != 0 or len(words) > 3 * EQUATED:
        return None
    row = []
    for at in range(0, len(words), 3):
        sign, factor, name = words[at:at + 3]
        number_there = integer_in(factor)
        if at > 0 and sign != "+" or number_there is None or not is_name(name):
            return None
        row.append((number_there, name))
    return tuple(row)


def make_number(desk, things):
    """The function n."""
    return number()


def make_constant(desk, things):
    """The integer, for all n."""
    return constant(things[0])


def make_single(desk, things):
    """1 at this number only."""
    return single(things[0])


def make_sum(desk, things):
    """The sum of two functions."""
    return desk[things[0]] + desk[things[1]]


def make_difference(desk, things):
    """The difference of two functions."""
    return desk[things[0]] - desk[things[1]]


def make_product(desk, things):
    """The product of two functions."""
    return desk[things[0]] * desk[things[1]]


def make_ahead(desk, things):
    """The function so much further on."""
    return desk[things[0]] << things[1]


def make_behind(desk, things):
    """The function so much before."""
    return desk[things[0]] >> things[1]


def make_slow(desk, things):
    """The function of n divided by the integer."""
    return desk[things[0]] // things[1]


def make_rest(desk, things):
    """The rests of the function."""
    return desk[things[0]] % things[1]


def make_part(desk, things):
    """The function at a step times n and a start."""
    return desk[things[0]][things[1]]


def make_sums(desk, things):
    """The sums of the function."""
    return sums(desk[things[0]])


def drop_name(desk, things):
    """Takes a name away."""
    desk.drop(things[0])
    return DONE


def undo_last(desk, things):
    """Takes the last deed back."""
    desk.undo()
    return DONE


def value_at(desk, things):
    """The value at a number."""
    function = desk[things[0]]
    return str(function(things[1]))


def compared(desk, things):
    """Whether two functions are the same, and where they differ first."""
    place = parting(desk[things[0]], desk[things[1]])
    return "same" if place is None else f"apart at {place}"


def counted(desk, things):
    """How many numbers below one have a rest."""
    name, modulus, rest, below = things
    function = desk[name]
    # All numbers of the line come before TooManyStates, which where raises.
    if not is_between(modulus, 2, MODULUS):
        raise InvalidNumber(modulus)
    if not is_between(rest, 0, modulus - 1):
        raise InvalidNumber(rest)
    if not is_number(below):
        raise InvalidNumber(below)
    return str(where(function, modulus, rest).count(below))


def shown(desk, things):
    """The least text in one line."""
    return least_text(desk[things[0]]).replace("\n", " | ")


# By the words behind `A =`, what the name is given.
MAKERS = {
    "number": make_number, "constant K": make_constant, "single K": make_single, "B + B": make_sum,
    "B - B": make_difference, "B * B": make_product, "B << K": make_ahead, "B >> K": make_behind, "B // K": make_slow,
    "B mod K": make_rest, "sums B": make_sums}

# By the words of all other lines but those that begin with `equate`, what is answered.
ANSWERS = {
    "drop B": drop_name, "undo": undo_last, "B at K": value_at, "B and B": compared,
    "B by K is K below K": counted, "show B": shown}
