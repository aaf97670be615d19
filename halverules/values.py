"""The values that functions of few different parts have, and at which numbers."""

from halverules.checks import is_integer
from halverules.counting import member_at
from halverules.errors import InvalidNumber, TooManyStates
from halverules.halved import check_function
from halverules.limits import LOOKED_AT, STATES
from halverules.lines import half_mix, next_values, sum_of
from halverules.numbers import set_of
from halverules.parts import Parts


def all_values(f):
    """The ascending tuple of all values."""
    check_function(f)
    found = {worth: True for worth in few_parts(f).starts}
    return tuple(sorted([int(worth) for worth in found]))


def at_value(f, value):
    """The set of the n at which f has this value."""
    check_function(f)
    if not is_integer(value):
        raise InvalidNumber(value)
    parts = few_parts(f)
    return set_of(Parts(parts.halves, [1 if start == value else 0 for start in parts.starts]))


def bounded(f, low, high):
    """The least n at which f is less than `low` or greater than `high`, None if it never is."""
    check_function(f)
    if not is_integer(low):
        raise InvalidNumber(low)
    if not is_integer(high) or high < low:
        raise InvalidNumber(high)
    early = early_beyond(f, low, high)
    if early is not None:
        return early
    parts = few_parts(f)
    beyond = Parts(parts.halves, [0 if low <= start <= high else 1 for start in parts.starts])
    return member_at(beyond, 0, len(beyond.halves))


def few_parts(function):
    """All different parts of a function; TooManyStates if there are too many.

    The lines of a function are no combinations of others, so parts are the same only if they have the same factors.
    """
    parts = [function.mix]
    places = {marked(function, function.mix): 0}
    halves = []
    at = 0
    while at < len(parts):
        pair = []
        for digit in (0, 1):
            part = half_mix(function.lines, parts[at], digit)
            mark = marked(function, part)
            if mark not in places:
                if len(parts) == STATES:
                    raise TooManyStates()
                places[mark] = len(parts)
                parts.append(part)
            pair.append(places[mark])
        halves.append((pair[0], pair[1]))
        at += 1
    return Parts(halves, [sum_of(part, function.lines.starts) for part in parts])


def marked(function, part):
    """The factors of a part, by which it is told from other parts."""
    return tuple([part.get(at, 0) for at in range(function.rank)])


def early_beyond(function, low, high):
    """The least n at which a function is out of these bounds, None if there is none that is looked at."""
    lines = function.lines
    parts = [function.mix]
    columns = [lines.starts]
    # The part (k, r) at n is the function at 2 ** k * n + r, so a few parts at a few numbers are enough.
    while len(parts) * len(columns) < LOOKED_AT:
        if len(columns) < len(parts):
            columns = [next_values(lines, values, digit) for values in columns for digit in (0, 1)]
        else:
            parts = [half_mix(lines, part, digit) for digit in (0, 1) for part in parts]
    for n, values in enumerate(columns):
        for start, part in enumerate(parts):
            if not low <= sum_of(part, values) <= high:
                return n * len(parts) + start
    return None
