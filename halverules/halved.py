"""Functions told by halves, and what their operators make of them."""

from halverules.checks import is_between, is_integer, is_number
from halverules.errors import InvalidNumber, NotAFunction, TooMany
from halverules.fewest import fewest_lines
from halverules.least import least_rule
from halverules.limits import RANK, TOGETHER
from halverules.lines import Lines, half_mix, moved, sum_of, values_at
from halverules.rests import rest_parts
from halverules.systems import beside, crossed, crossed_mix, spread, spread_everywhere, thinned


class Halved:
    """A function told by halves.

    It is kept by its least rule, for what is told of it, and as a mix of as many lines as its rank, to work with.
    """

    def __init__(self, lines, mix, told):
        self.lines = lines
        self.mix = mix
        self._basis, self._equations, self._firsts = told

    @property
    def rank(self):
        """The least number of functions of which all parts are combinations."""
        return len(self._basis)

    @property
    def basis(self):
        """The basic parts."""
        return self._basis

    @property
    def equations(self):
        """For each basic part its rows at 2 n and at 2 n + 1."""
        return self._equations

    @property
    def firsts(self):
        """The values of the basic parts at 0."""
        return self._firsts

    def __call__(self, n):
        if not is_number(n):
            raise InvalidNumber(n)
        return sum_of(self.mix, values_at(self.lines, n))

    def __add__(self, other):
        return summed(self, as_function(other))

    def __radd__(self, other):
        return summed(as_function(other), self)

    def __sub__(self, other):
        return summed(self, scaled(as_function(other), -1))

    def __rsub__(self, other):
        return summed(as_function(other), scaled(self, -1))

    def __mul__(self, other):
        if is_integer(other):
            return scaled(self, other)
        return multiplied(self, as_function(other))

    def __rmul__(self, other):
        return self * other

    def __neg__(self):
        return scaled(self, -1)

    def __pow__(self, other):
        power = constant(1)
        for at in range(as_bounded(other, 0, 3)):
            power = self if at == 0 else multiplied(power, self)
        return power

    def __lshift__(self, other):
        return stepped(self, 1, as_bounded(other, 0, 64))

    def __rshift__(self, other):
        return stepped(self, 1, -as_bounded(other, 0, 64))

    def __floordiv__(self, other):
        return slowed(self, as_bounded(other, 1, 8))

    def __mod__(self, other):
        return rested(self, as_bounded(other, 2, 12))

    def __getitem__(self, at):
        if not is_step_and_start(at):
            raise InvalidNumber(at)
        step, start = at
        return stepped(self, step, start)

    def __iter__(self):
        # Without this Python would take f[0], f[1], .. for what is iterated over.
        raise TypeError("a function told by halves is not iterated over")

    def __eq__(self, other):
        return (
            isinstance(other, Halved)
            and self._basis == other._basis
            and self._equations == other._equations
            and self._firsts == other._firsts
        )

    def __bool__(self):
        return bool(self._basis)

    def __str__(self):
        return f"halved {len(self._basis)}"

    def __repr__(self):
        return f"Halved({len(self._basis)})"


def check_function(value):
    """NotAFunction if it is none."""
    if not isinstance(value, Halved):
        raise NotAFunction(value)


def as_function(value):
    """The function on one side of an operator, also for an integer, which is the same for all n."""
    if isinstance(value, Halved):
        return value
    if not is_integer(value):
        raise TypeError("no function and no integer")
    return constant(value)


def as_bounded(value, low, high):
    """The integer on the right of an operator."""
    # If this were left to the other operand, as Python does it, a Fraction(2) behind ** would take f * f.
    if not is_integer(value):
        raise TypeError("no integer")
    if not is_between(value, low, high):
        raise InvalidNumber(value)
    return value


def is_step_and_start(value):
    """Whether f[..] takes it."""
    if not isinstance(value, tuple) or len(value) != 2:
        return False
    return is_between(value[0], 1, 8) and is_between(value[1], 0, 63)


def function_of(lines, mix):
    """The function that is a mix of lines."""
    lines, mix = fewest_lines(lines, mix)
    return Halved(lines, mix, least_rule(lines, mix))


def function_of_parts(parts):
    """The function whose values are those of the first of such different parts."""
    evens = [{even: 1} for even, _ in parts.halves]
    odds = [{odd: 1} for _, odd in parts.halves]
    return function_of(Lines(evens, odds, parts.starts), {0: 1})


def function_of_basis(lines, basis):
    """The function that is the first of lines that are its basic parts."""
    width = len(basis)
    evens, odds = lines.halves
    equations = tuple([(whole_row(even, width), whole_row(odd, width)) for even, odd in zip(evens, odds)])
    return Halved(lines, {0: 1}, (basis, equations, tuple(lines.starts)))


def whole_row(mix, width):
    """The factors of a mix as a row of so many fractions."""
    return tuple([(mix.get(at, 0), 1) for at in range(width)])


def scaled(function, times):
    """So many times the function."""
    if times == 0:
        return constant(0)
    mix = {at: times * function.mix[at] for at in function.mix}
    firsts = tuple([times * first for first in function.firsts])
    return Halved(function.lines, mix, (function.basis, function.equations, firsts))


def summed(first, second):
    """The sum of two functions."""
    lines = beside(first.lines, second.lines)
    return function_of(lines, {**first.mix, **moved(second.mix, len(first.lines.starts))})


def multiplied(first, second):
    """The product of two functions."""
    if first.rank * second.rank > TOGETHER:
        raise TooMany()
    lines = crossed(first.lines, second.lines)
    return function_of(lines, crossed_mix(first.mix, second.mix, len(second.lines.starts)))


def stepped(function, step, start):
    """The function at step * n + start, 0 where this is less than 0; a start below 0 goes with the step 1 only."""
    mix = function.mix
    # With an even step only every other number is asked for, so a part does, and far fewer lines.
    while step % 2 == 0:
        mix = half_mix(function.lines, mix, start % 2)
        step = step // 2
        start = start // 2
    return function_of(thinned(function.lines, step, start), mix)


def slowed(function, times):
    """The function at n // times."""
    return function_of(spread(function.lines, times), spread_everywhere(function.lines, function.mix, times))


def rested(function, modulus):
    """The rests of the function by the modulus."""
    parts = rest_parts(function.lines, function.mix, modulus, TOGETHER)
    if parts is None:
        raise TooMany()
    return function_of_parts(parts)


def constant(c):
    """The function that is the integer c for all n."""
    if not is_integer(c):
        raise InvalidNumber(c)
    if c == 0:
        return Halved(Lines([], [], []), {}, ((), (), ()))
    return function_of_basis(Lines([{0: 1}], [{0: 1}], [c]), ((0, 0),))


def number():
    """The function n."""
    lines = Lines([{0: 2}, {1: 1}], [{0: 2, 1: 1}, {1: 1}], [0, 1])
    return Halved(lines, {0: 1}, least_rule(lines, {0: 1}))


def single(n):
    """The function that is 1 at n and 0 at all other numbers."""
    if not is_number(n):
        raise InvalidNumber(n)
    # Its basic parts are the functions of this kind for n, n // 2, n // 4, .., 1 and 0; all others are 0.
    last = n.bit_length()
    if last + 1 > RANK:
        raise TooMany()
    following = [{at + 1: 1} for at in range(last)]
    evens = [mix if n >> at & 1 == 0 else {} for at, mix in enumerate(following)]
    odds = [mix if n >> at & 1 == 1 else {} for at, mix in enumerate(following)]
    basis = tuple([(depth, n & (1 << depth) - 1) for depth in range(last + 1)])
    return function_of_basis(Lines([*evens, {last: 1}], [*odds, {}], [*([0] * last), 1]), basis)
