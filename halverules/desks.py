"""Desks: functions under names, and equations among them that hold for all n."""

from halverules.checks import is_between, is_integer, is_name
from halverules.errors import (
    Busy, InvalidDeeds, InvalidName, InvalidNumber, InvalidValues, NothingToUndo, Parted, Refused, TooMany, UnknownName)
from halverules.halved import check_function
from halverules.limits import EQUATED, TOGETHER
from halverules.lines import combined
from halverules.relations import first_apart, together

SET = "set"
DROP = "drop"
EQUATE = "equate"
RELEASE = "release"

# How many items a deed has that begins with this word.
ITEMS = {"set": 3, "drop": 2, "equate": 2, "release": 2}


class Desk:
    """Functions under names, and equations: pairs of a factor and a name that add up to 0 for all n.

    What is kept is never changed, but exchanged as a whole, so that it can be had back.
    """

    def __init__(self):
        # The functions by their names, and the equations.
        self._kept = ({}, ())
        # The deeds that were done, each with what was kept before it.
        self._past = ()
        self._busy = False

    @property
    def names(self):
        """The ascending tuple of the names."""
        return tuple(sorted([str(name) for name in self._kept[0]]))

    @property
    def equations(self):
        """The equations in the order in which they were added."""
        return self._kept[1]

    @property
    def busy(self):
        """Whether do_all works."""
        return self._busy

    @property
    def history(self):
        """The deeds that were done and not undone."""
        return tuple([deed for deed, _ in self._past])

    def __getitem__(self, at):
        check_kept(at, self._kept[0])
        return self._kept[0][at]

    def __iter__(self):
        # Without this Python would take desk[0], desk[1], .. for what is iterated over.
        raise TypeError("a desk is not iterated over")

    def __contains__(self, x):
        return is_name(x) and x in self._kept[0]

    def __setitem__(self, at, worth):
        self.do_one((SET, at, worth))

    def drop(self, name):
        """Takes the name away."""
        self.do_one((DROP, name))

    def equate(self, row):
        """Adds this equation."""
        self.do_one((EQUATE, row))

    def release(self, index):
        """Takes the equation with this index away."""
        self.do_one((RELEASE, index))

    def do_one(self, deed):
        """Does this deed."""
        if self._busy:
            raise Busy()
        self.take(deed)

    def take(self, deed):
        """Keeps what there is behind this deed, with the deed."""
        before = self._kept
        self._kept = behind(deed, before)
        self._past = (*self._past, (deed, before))

    def do_all(self, *deeds, watch=None):
        """Does the deeds in their order, all or none, and returns how many there are."""
        if self._busy:
            raise Busy()
        check_deeds(deeds)
        kept = self._kept
        past = self._past
        self._busy = True
        try:
            for deed in deeds:
                self.take(deed)
                if watch is not None:
                    watch(self)
            kept = self._kept
            past = self._past
        finally:
            self._kept = kept
            self._past = past
            self._busy = False
        return len(deeds)

    def undo(self, *, times=1):
        """Takes back the last deeds, so many."""
        if self._busy:
            raise Busy()
        if not is_integer(times) or times < 1:
            raise InvalidNumber(times)
        if times > len(self._past):
            raise NothingToUndo()
        _, self._kept = self._past[-times]
        self._past = self._past[:-times]


def check_deeds(deeds):
    """InvalidDeeds if one is not a tuple with one of the words and as many items as it has."""
    for at, deed in enumerate(deeds):
        if not isinstance(deed, tuple) or not deed or not isinstance(deed[0], str) or deed[0] not in ITEMS:
            raise InvalidDeeds(at)
        if len(deed) != ITEMS[deed[0]]:
            raise InvalidDeeds(at)


def check_kept(name, functions):
    """The errors of a name under which no function is kept."""
    if not is_name(name):
        raise InvalidName(name)
    if name not in functions:
        raise UnknownName(name)


def behind(deed, kept):
    """What is kept behind a deed, if this is kept before it."""
    word, *things = deed
    functions, equations = kept
    if word == SET:
        name, function = things
        return behind_set(name, function, functions, equations)
    thing = things[0]
    if word == DROP:
        return behind_drop(thing, functions, equations)
    if word == EQUATE:
        return behind_equate(thing, functions, equations)
    if not is_between(thing, 0, len(equations) - 1):
        raise InvalidNumber(thing)
    return functions, (*equations[:thing], *equations[thing + 1:])


def behind_set(name, function, functions, equations):
    """What is kept when this name has this function."""
    if not is_name(name):
        raise InvalidName(name)
    check_function(function)
    changed = {**functions, name: function}
    for at, equation in enumerate(equations):
        # The others are as they were.
        if stands_in(name, equation):
            check_equation(at, equation, changed)
    return changed, equations


def behind_drop(name, functions, equations):
    """What is kept without this name."""
    check_kept(name, functions)
    for at, equation in enumerate(equations):
        if stands_in(name, equation):
            raise Refused(at)
    return {other: functions[other] for other in functions if other != name}, equations


def behind_equate(row, functions, equations):
    """What is kept with one more equation."""
    if not isinstance(row, tuple) or not 1 <= len(row) <= EQUATED:
        raise InvalidValues(None)
    for at, pair in enumerate(row):
        if not isinstance(pair, tuple) or len(pair) != 2 or not is_integer(pair[0]) or not is_name(pair[1]):
            raise InvalidValues(at)
    for _, name in row:
        if name not in functions:
            raise UnknownName(name)
    check_equation(len(equations), row, functions)
    return functions, (*equations, row)


def stands_in(name, equation):
    """Whether the name is one of those of the equation."""
    return any([other == name for _, other in equation])


def check_equation(index, equation, functions):
    """TooMany or Refused if the equation with this index cannot be kept for these functions."""
    if sum([functions[name].rank for _, name in equation]) > TOGETHER:
        raise TooMany()
    factors = {}
    for factor, name in equation:
        factors[name] = factors.get(name, 0) + factor
    kept = [name for name in factors if factors[name] != 0]
    lines, mixes = together([functions[name] for name in kept])
    number = first_apart(lines, combined({at: factors[name] for at, name in enumerate(kept)}, mixes))
    if number is not None:
        raise Refused(index) from Parted(number)
