"""Two books with the same weights compared, for all numbers of comings."""

from pageshares.checks import check_comings, checked_standing, is_integer_within
from pageshares.coming import gaps
from pageshares.contrasts import MOST_PAPER, Contrast
from pageshares.errors import InvalidBound, LimitExceeded
from pageshares.plain import MOST_COMINGS
from pageshares.vectors import check_prices, over


def same_means(one, other):
    """Return the least kind whose page has another mean after one coming, or None if all means are the same."""
    _check_weights(one, other)
    return min([kind for kind in range(len(one)) if one.mean_outcome(kind) != other.mean_outcome(kind)], default=None)


def same_chances(one, other):
    """Return the least kind whose page has other chances after one coming, or None if all chances are the same."""
    _check_weights(one, other)
    return min([kind for kind in range(len(one)) if one[kind] != other[kind]], default=None)


def difference(one, x, other, y, prices, n):
    """Return the value of the mean of one book after n comings minus that of the other book."""
    _check_pair(one, x, other, y, prices)
    check_comings(n, MOST_COMINGS)
    return Contrast(one, x, other, y, prices).worth_after(n)


def numerator(one, x, other, y, prices, n):
    """Return the fractions q[0], q[1] and so on that tell the difference after n and all more comings."""
    _check_pair(one, x, other, y, prices)
    check_comings(n, MOST_PAPER)
    contrast = Contrast(one, x, other, y, prices)
    if n < contrast.first:
        raise InvalidBound("n")
    return over(contrast.numbers_from(n), contrast.below)


def never_above(one, x, other, y, prices):
    """Return ("above", n) with the first n that has a difference above 0, or ("never", n) with the least paper."""
    _check_pair(one, x, other, y, prices)
    contrast = Contrast(one, x, other, y, prices)
    paper = contrast.least_paper()
    above = contrast.first_above(MOST_PAPER if paper is None else paper)
    if above is not None:
        return ("above", above)
    if paper is None:
        raise LimitExceeded(MOST_PAPER)
    return ("never", paper)


def is_never(one, x, other, y, prices, n):
    """Whether n is a paper and the difference is not above 0 before it."""
    _check_pair(one, x, other, y, prices)
    contrast = Contrast(one, x, other, y, prices)
    if not is_integer_within(n, contrast.first, MOST_PAPER):
        return False
    return contrast.is_paper(n) and contrast.first_above(n) is None


def _check_weights(one, other):
    if one.weights() != other.weights():
        raise InvalidBound("other")


def _check_pair(one, x, other, y, prices):
    standing = checked_standing(one, x)
    _check_weights(one, other)
    if gaps(one, standing) != gaps(other, checked_standing(other, y)):
        raise InvalidBound("y")
    check_prices(one, prices)
