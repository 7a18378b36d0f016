"""Checks of arguments that several modules share."""

from pageshares.errors import InvalidBound, InvalidStanding

SHORT_LIMIT = 1000000


def is_integer(value):
    """Whether the value is an integer of the document."""
    # Python counts True and False as ints; the document does not.
    return isinstance(value, int) and not isinstance(value, bool)


def is_integer_within(value, low, high):
    """Whether the value is an integer from low to high."""
    return is_integer(value) and low <= value <= high


def is_list_of(value, many):
    """Whether the value is a list with so many entries."""
    return isinstance(value, list) and len(value) == many


def is_pair(value):
    """Whether the value is a tuple of two values."""
    return isinstance(value, tuple) and len(value) == 2


def is_kind(book, value):
    """Whether the value is the number of a kind of the book."""
    return is_integer_within(value, 0, len(book) - 1)


def check_comings(n, most):
    """Raise InvalidBound if n is not an integer from 0 to the greatest one."""
    if not is_integer_within(n, 0, most):
        raise InvalidBound("n")


def checked_standing(book, counts):
    """Return a copy of the standing, or raise InvalidStanding."""
    _check_list(book, counts)
    for kind, count in enumerate(counts):
        if not is_integer(count) or count < 0:
            raise InvalidStanding(kind)
    return _checked_sum(counts)


def checked_short_standing(book, counts):
    """Return a copy of the short standing, or raise InvalidStanding."""
    _check_list(book, counts)
    for kind, count in enumerate(counts):
        if not is_integer_within(count, 0, SHORT_LIMIT):
            raise InvalidStanding(kind)
    return _checked_sum(counts)


def _check_list(book, counts):
    if not is_list_of(counts, len(book)):
        raise InvalidStanding(-1)


def _checked_sum(counts):
    if sum(counts) == 0:
        raise InvalidStanding(-1)
    return list(counts)
