"""Means of the numbers of pages after some comings."""

from pageshares.checks import check_comings, checked_short_standing
from pageshares.coming import gaps
from pageshares.errors import InvalidBound
from pageshares.vectors import check_prices, inner, is_vector, over, times, whole_matrix

MOST_COMINGS = 200


def mean(book, counts, n):
    """Return MEAN(n), the vector of the mean numbers of pages after n comings."""
    standing = checked_short_standing(book, counts)
    check_comings(n, MOST_COMINGS)
    found = list(_whole_means(book, standing, n))
    numbers, below = found[-1]
    return over(numbers, below)


def means(book, counts, n):
    """Yield MEAN(0), MEAN(1) and so on up to MEAN(n)."""
    standing = checked_short_standing(book, counts)
    check_comings(n, MOST_COMINGS)
    for numbers, below in _whole_means(book, standing, n):
        yield over(numbers, below)


def value(book, prices, amounts):
    """Return the sum of price times entry of a vector or of a standing."""
    check_prices(book, prices)
    if not is_vector(book, amounts):
        raise InvalidBound("amounts")
    return inner(prices, amounts)


def stepped(rows, amount, numbers):
    """Return the numbers times the amount, plus the rows times the numbers: one coming, in integers."""
    return [amount * number + change for number, change in zip(numbers, times(rows, numbers))]


def _whole_means(book, standing, n):
    rows, scale = whole_matrix(book.matrix())
    start = gaps(book, standing)
    numbers = standing
    below = 1
    yield (numbers, below)
    for t in range(start, start + n):
        numbers = stepped(rows, scale * t, numbers)
        below = below * scale * t
        yield (numbers, below)
