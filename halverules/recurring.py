"""The least recurrence of integers of which some recurrence is known to hold."""

from halverules.least import combination
from halverules.limits import RANK
from halverules.modular import PRIME, rest_by
from halverules.rows import least_index, reduced, sparse


def values_needed(most):
    """How many first values least_recurrence needs for such a rank at most."""
    return most + RANK


def least_recurrence(values, most):
    """The factors c_1, .., c_r of the least recurrence, for a rank that is at most `most`; None if r is above RANK.

    What has a recurrence of r factors is 0 if its first r values are.
    """
    for rank in range(rank_so_far(values, most), RANK + 1):
        factors = factors_for(values, rank)
        if factors is not None and holds(values, factors, most):
            return factors
    return None


def rank_so_far(values, most):
    """How many shifts are no combinations of one another modulo a prime, RANK + 1 at most: no more than the rank."""
    small = [worth % PRIME for worth in values]
    echelon = []
    while len(echelon) < most and len(echelon) <= RANK:
        at = len(echelon)
        rest, pivot = rest_by(small[at:at + most], echelon)
        if pivot is None:
            break
        echelon.append((pivot, rest))
    return len(echelon)


def factors_for(values, rank):
    """The integers by which the shifts before it may add up to the shift by the rank, the last one first.

    None if there are none. The first so many shifts are told apart by as many first values if this is the rank.
    """
    echelon = []
    for at in range(rank + 1):
        rest = reduced({**sparse(values[at:at + rank]), rank + at: 1}, echelon)
        pivot = least_index(rest, rank)
        if pivot is None:
            break
        echelon.append((pivot, rest))
    if len(echelon) < rank:
        return None
    fractions = combination(rest, rank, rank)
    row = [fractions.get(rank - 1 - at, (0, 1)) for at in range(rank)]
    # A row of integers has no least recurrence with fractions.
    if not all([bottom == 1 for _, bottom in row]):
        return None
    return tuple([top for top, _ in row])


def holds(values, factors, most):
    """Whether a recurrence holds so often that it holds for all k."""
    rank = len(factors)
    return all([values[at + rank] == stepped(values[at:at + rank], factors) for at in range(most)])


def stepped(last, factors):
    """The next value behind these last ones, by a recurrence with as many factors."""
    total = 0
    for at, factor in enumerate(factors):
        total = total + factor * last[-1 - at]
    return total
