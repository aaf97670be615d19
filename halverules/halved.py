"""Functions told by halves, and what their operators make of them."""

from halverules.checks import is_between, is_integer, is_number
from halverules.errors import InvalidNumber, TooMany
from halverules.least import least_rule
from halverules.limits import RANK, TOGETHER
from halverules.lines import Lines, first_line, half_mix, lines_of, value_of, values_at
from halverules.systems import beside, crossed, spread, spread_first, summed_mix, thinned
from halverules.whole import rest_lines, whole_lines


class Halved:
    """A function told by halves; it is kept by its least rule."""

    def __init__(self, basis, equations, firsts):
        self._basis = basis
        self._equations = equations
        self._firsts = firsts
        self.lines = lines_of(equations, firsts)

    @property
    def rank(self):
        """The least number of functions of which all parts are combinations."""
        return len(self._basis)

    @property
    def basis(self):
        """The basic parts."""
        return self._basis

    @property
    def equations(self):
        """For each basic part its rows at 2 n and at 2 n + 1."""
        return self._equations

    @property
    def firsts(self):
        """The values of the basic parts at 0."""
        return self._firsts

    def __call__(self, n):
        if not is_number(n):
            raise InvalidNumber(n)
        return value_of(first_line(self.lines), values_at(self.lines, n))

    def __add__(self, other):
        return summed(self, as_function(other), 1)

    def __radd__(self, other):
        return summed(as_function(other), self, 1)

    def __sub__(self, other):
        return summed(self, as_function(other), -1)

    def __rsub__(self, other):
        return summed(as_function(other), self, -1)

    def __mul__(self, other):
        return multiplied(self, as_function(other))

    def __rmul__(self, other):
        return multiplied(as_function(other), self)

    def __neg__(self):
        return Halved(self._basis, self._equations, tuple([-first for first in self._firsts]))

    def __pow__(self, other):
        power = constant(1)
        for _ in range(as_bounded(other, 0, 3)):
            power = multiplied(power, self)
        return power

    def __lshift__(self, other):
        return stepped(self, 1, as_bounded(other, 0, 64))

    def __rshift__(self, other):
        return stepped(self, 1, -as_bounded(other, 0, 64))

    def __floordiv__(self, other):
        return slowed(self, as_bounded(other, 1, 8))

    def __mod__(self, other):
        return rested(self, as_bounded(other, 2, 12))

    def __getitem__(self, at):
        if not is_step_and_start(at):
            raise InvalidNumber(at)
        step, start = at
        return stepped(self, step, start)

    def __iter__(self):
        # Without this Python would take f[0], f[1], .. for what is iterated over.
        raise TypeError("a function told by halves is not iterated over")

    def __eq__(self, other):
        return (
            isinstance(other, Halved)
            and self._basis == other._basis
            and self._equations == other._equations
            and self._firsts == other._firsts
        )

    def __bool__(self):
        return bool(self._basis)

    def __str__(self):
        return f"halved {len(self._basis)}"

    def __repr__(self):
        return f"Halved({len(self._basis)})"


def as_function(value):
    """The function on one side of an operator, also for an integer, which is the same for all n."""
    if isinstance(value, Halved):
        return value
    if not is_integer(value):
        raise TypeError("no function and no integer")
    return constant(value)


def as_bounded(value, low, high):
    """The integer on the right of an operator."""
    # If this were left to the other operand, as Python does it, a Fraction(2) behind ** would take f * f.
    if not is_integer(value):
        raise TypeError("no integer")
    if not is_between(value, low, high):
        raise InvalidNumber(value)
    return value


def is_step_and_start(value):
    """Whether f[..] takes it."""
    if not isinstance(value, tuple) or len(value) != 2:
        return False
    return is_between(value[0], 1, 8) and is_between(value[1], 0, 63)


def function_of(lines, mix):
    """The function that is a mix of lines."""
    basis, equations, firsts = least_rule(lines, mix)
    return Halved(basis, equations, firsts)


def summed(first, second, times):
    """The one function and so many times the other."""
    return function_of(beside(first.lines, second.lines), summed_mix(first.lines, second.lines, times))


def multiplied(first, second):
    """The product of two functions."""
    if first.rank * second.rank > TOGETHER:
        raise TooMany()
    lines = crossed(first.lines, second.lines)
    return function_of(lines, first_line(lines))


def stepped(function, step, start):
    """The function at step * n + start, 0 where this is less than 0; a start below 0 goes with the step 1 only."""
    mix = first_line(function.lines)
    # With an even step only every other number is asked for, so a part does, and far fewer lines.
    while step % 2 == 0:
        mix = half_mix(function.lines, mix, start % 2)
        step = step // 2
        start = start // 2
    return function_of(thinned(function.lines, step, start), mix)


def slowed(function, times):
    """The function at n // times."""
    return function_of(spread(function.lines, times), spread_first(function.lines, times))


def rested(function, modulus):
    """The rests of the function by the modulus."""
    lines, mix = whole_lines(function.lines)
    rests = rest_lines(lines, mix, modulus, TOGETHER)
    if rests is None:
        raise TooMany()
    return function_of(rests, first_line(rests))


def constant(c):
    """The function that is the integer c for all n."""
    if not is_integer(c):
        raise InvalidNumber(c)
    same = ({0: 1}, 1)
    return function_of(Lines([(same, same)], [c]), same)


def number():
    """The function n."""
    twice = ({0: 2}, 1)
    twice_and_one = ({0: 2, 1: 1}, 1)
    one = ({1: 1}, 1)
    return function_of(Lines([(twice, twice_and_one), (one, one)], [0, 1]), ({0: 1}, 1))


def single(n):
    """The function that is 1 at n and 0 at all other numbers."""
    if not is_number(n):
        raise InvalidNumber(n)
    # Its parts, but for 0, are the functions of this kind for n, n // 2, n // 4, .., 1 and 0.
    last = n.bit_length()
    if last + 1 > RANK:
        raise TooMany()
    zero = ({}, 1)
    halves = []
    for at in range(last + 1):
        part = ({at + 1: 1}, 1) if at < last else ({last: 1}, 1)
        halves.append((zero, part) if n >> at & 1 == 1 else (part, zero))
    return function_of(Lines(halves, [*([0] * last), 1]), ({0: 1}, 1))
