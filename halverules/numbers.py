"""Sets of numbers that are told by the rests of functions, and what is made of them."""

from halverules.checks import is_between, is_integer, is_number
from halverules.counting import count_below, has_last, is_member, member_at
from halverules.errors import InvalidNumber, InvalidValues, NoMember, TooMany, TooManyStates
from halverules.halved import check_function, function_of_parts
from halverules.limits import LARGEST, MODULUS, PAIRS, STATES, TOGETHER
from halverules.parts import Parts, is_within, member_parts, merged, paired
from halverules.rests import rest_parts


class Numbers:
    """A set of integers from 0 on, kept by its classes."""

    def __init__(self, parts):
        self.parts = parts

    @staticmethod
    def told(*members):
        """The set of these ascending integers."""
        for at, member in enumerate(members):
            if not is_number(member) or at > 0 and member <= members[at - 1]:
                raise InvalidValues(at)
        parts = member_parts(members, STATES)
        if parts is None:
            raise TooManyStates()
        return Numbers(parts)

    @property
    def states(self):
        """The number of its classes."""
        return len(self.parts.halves)

    @property
    def least(self):
        """The least member, None without any."""
        # With so many classes the least member has fewer digits.
        return member_at(self.parts, 0, len(self.parts.halves))

    @property
    def is_finite(self):
        """Whether it has only finitely many members."""
        return has_last(self.parts)

    def count(self, below):
        """The number of members less than `below`."""
        if not is_number(below):
            raise InvalidNumber(below)
        return count_below(self.parts, below)

    def kth(self, index):
        """The member before which there are just `index` members."""
        if not is_number(index):
            raise InvalidNumber(index)
        member = member_at(self.parts, index, LARGEST.bit_length())
        if member is None or member > LARGEST:
            raise NoMember(index)
        return member

    def indicator(self):
        """The function that is 1 for members and 0 for others."""
        if len(self.parts.halves) > TOGETHER:
            raise TooMany()
        return function_of_parts(self.parts)

    def __and__(self, other):
        return joined(self, other, ((1, 1),))

    def __or__(self, other):
        return joined(self, other, ((0, 1), (1, 0), (1, 1)))

    def __sub__(self, other):
        return joined(self, other, ((1, 0),))

    def __xor__(self, other):
        return joined(self, other, ((0, 1), (1, 0)))

    def __invert__(self):
        return Numbers(Parts(self.parts.halves, [1 - start for start in self.parts.starts]))

    def __le__(self, other):
        check_set(other)
        return is_within(self.parts, other.parts)

    def __contains__(self, x):
        return is_integer(x) and x >= 0 and is_member(self.parts, x)

    def __eq__(self, other):
        return (
            isinstance(other, Numbers)
            and self.parts.halves == other.parts.halves
            and self.parts.starts == other.parts.starts
        )

    def __bool__(self):
        return any(self.parts.starts)


def check_set(value):
    """TypeError if it is no set of numbers."""
    if not isinstance(value, Numbers):
        raise TypeError("no set of numbers")


def joined(first, second, kept):
    """The numbers whose pair is kept: 1 or 0 for being in the first set or not, and the same for the second one."""
    check_set(second)
    parts = paired(first.parts, second.parts, kept, PAIRS)
    if parts is None:
        raise TooManyStates()
    return set_of(parts)


def set_of(parts):
    """The set with these parts, of which some may be the same."""
    parts = merged(parts)
    if len(parts.halves) > STATES:
        raise TooManyStates()
    return Numbers(parts)


def where(f, modulus, rest):
    """The set of the n for which f(n) has this rest by the modulus."""
    check_function(f)
    if not is_between(modulus, 2, MODULUS):
        raise InvalidNumber(modulus)
    if not is_between(rest, 0, modulus - 1):
        raise InvalidNumber(rest)
    parts = rest_parts(f.lines, f.mix, modulus, STATES)
    if parts is None:
        raise TooManyStates()
    return set_of(Parts(parts.halves, [1 if start == rest else 0 for start in parts.starts]))
