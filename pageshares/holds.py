"""Holds: bounds of the rests of all standings that are checked on the book alone."""

from pageshares.amounts import fraction, is_fraction, is_less, multiplied
from pageshares.checks import checked_short_standing, is_integer, is_integer_within, is_kind, is_list_of, is_pair
from pageshares.coming import gaps
from pageshares.errors import InvalidBound, InvalidFraction, InvalidHold
from pageshares.limits import rest
from pageshares.vectors import inner, is_positive_vector, is_vector, over, quotient, whole_matrix, whole_vector

MOST_START = 200


def is_hold(book, value):
    """Whether the value is a hold of the book."""
    return _wrong_part(book, value) is None


def check_hold(book, hold):
    """Raise InvalidHold if this is not a hold of the book."""
    part = _wrong_part(book, hold)
    if part is not None:
        raise InvalidHold(part)


def hold_matrix(book, hold):
    """Return the matrix B of the hold."""
    check_hold(book, hold)
    rows, below = _whole_hold_matrix(book, hold[1])
    return [over(line, below) for line in rows]


def begin(book, hold):
    """Return the least integer T of at least 1 such that B[i][i] is at least -T for each kind i."""
    check_hold(book, hold)
    return _least_gaps(book, hold)


def norm(book, hold, vector):
    """Return the sum of the entries' absolute values, each multiplied by the scale of its kind."""
    check_hold(book, hold)
    if not is_vector(book, vector):
        raise InvalidBound("vector")
    return _measure(hold, vector)


def share_bound(book, counts, hold, kind, start, n):
    """Return what the share of the kind after n comings differs from the limit by at most."""
    standing = checked_short_standing(book, counts)
    _check_place(book, standing, hold, kind, start)
    if not is_integer(n) or n < start:
        raise InvalidBound("n")
    return multiplied(_reach(book, standing, hold, kind, start), (1, gaps(book, standing) + n))


def within(book, counts, hold, kind, start, distance):
    """Return the least n of at least the start for which the bound of the share is at most the distance."""
    standing = checked_short_standing(book, counts)
    _check_place(book, standing, hold, kind, start)
    if not is_fraction(distance):
        raise InvalidFraction("distance")
    if not is_less(0, distance):
        raise InvalidBound("distance")
    above, below = fraction(distance)
    reach_above, reach_below = _reach(book, standing, hold, kind, start)
    needed = -(-reach_above * below // (reach_below * above))
    return max(start, needed - gaps(book, standing))


def simple_hold(book):
    """Return the hold with the weights as its scale and the least rates of growth as its shift, or None."""
    hold = (over(book.weights(), 1), _least_rates(book))
    if is_hold(book, hold):
        return hold
    return None


def _wrong_part(book, value):
    """Return which part keeps the value from being a hold, or None."""
    if not is_pair(value) or not all([is_list_of(entries, len(book)) for entries in value]):
        return "form"
    if not is_positive_vector(book, value[0]):
        return "scale"
    if not is_vector(book, value[1]):
        return "shift"
    scale, _ = whole_vector(value[0])
    rows, _ = _whole_hold_matrix(book, value[1])
    kinds = range(len(book))
    for i in kinds:
        others = [scale[j] * abs(rows[j][i]) for j in kinds if j != i]
        if scale[i] * rows[i][i] + sum(others) > 0:
            return "column"
    return None


def _whole_hold_matrix(book, shift):
    """Return the rows of B as integers, and their denominator."""
    rows, below = whole_matrix(book.matrix())
    numbers, shift_below = whole_vector(shift)
    weights = book.weights()
    found = []
    for line, number in zip(rows, numbers):
        moved = below * number
        found.append([shift_below * entry - moved * weight for entry, weight in zip(line, weights)])
    return (found, below * shift_below)


def _least_gaps(book, hold):
    rows, below = _whole_hold_matrix(book, hold[1])
    return max([1] + [-(line[kind] // below) for kind, line in enumerate(rows)])


def _measure(hold, vector):
    return inner(hold[0], [_size(entry) for entry in vector])


def _check_place(book, standing, hold, kind, start):
    check_hold(book, hold)
    if not is_kind(book, kind):
        raise InvalidBound("kind")
    if not is_integer_within(start, 0, MOST_START) or gaps(book, standing) + start < _least_gaps(book, hold):
        raise InvalidBound("start")


def _reach(book, standing, hold, kind, start):
    """Return the norm of the rest after the start, divided by the scale of the kind."""
    above, below = fraction(hold[0][kind])
    return multiplied(_measure(hold, rest(book, standing, start)), (below, above))


def _size(entry):
    above, below = fraction(entry)
    return (abs(above), below)


def _least_rates(book):
    if len(book) == 1:
        return [(1, 1)]
    weights = book.weights()
    found = []
    for j, line in enumerate(book.matrix()):
        rates = [multiplied(entry, (1, weight)) for entry, weight in zip(line, weights)]
        numbers, below = whole_vector(rates[:j] + rates[j + 1:])
        found.append(quotient(min(numbers), below))
    return found
