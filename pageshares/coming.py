"""Standings, and what a coming makes of them."""

from pageshares.amounts import multiplied
from pageshares.checks import checked_standing, is_integer_within, is_pair
from pageshares.errors import InvalidBound, InvalidCall, InvalidRow, ShareError

MOST_PICKS = 1000


def gaps(book, counts):
    """Return the number of gaps of the standing."""
    standing = checked_standing(book, counts)
    return sum([weight * count for weight, count in zip(book.weights(), standing)])


def come(book, counts, kind, number):
    """Return the standing after the coming that meets the kind and has the outcome with this number."""
    standing = checked_standing(book, counts)
    # The book itself raises the error of a wrong kind.
    lottery = book[kind]
    if not is_integer_within(number, 0, len(lottery) - 1):
        raise InvalidBound("number")
    if standing[kind] == 0:
        raise InvalidCall("kind")
    standing[kind] = standing[kind] - 1
    return [count + new for count, new in zip(standing, lottery[number][1])]


def chances(book, counts):
    """Return a tuple (kind, number, chance) for each coming that is possible next."""
    standing = checked_standing(book, counts)
    weights = book.weights()
    all_gaps = gaps(book, standing)
    found = []
    for kind, count in enumerate(standing):
        if count > 0:
            met = (weights[kind] * count, all_gaps)
            for number, entry in enumerate(book[kind]):
                found.append((kind, number, multiplied(met, entry[0])))
    return found


def row(book, counts, picks):
    """Yield the standing after each pick of the row."""
    standing = checked_standing(book, counts)
    if not isinstance(picks, list) or len(picks) > MOST_PICKS:
        raise InvalidRow(-1)
    # All picks are done before the first standing is yielded: a wrong one is told with the first item,
    # and what a caller does later to a list that was passed or yielded changes nothing.
    yield from _standings_after(book, standing, picks)


def _standings_after(book, standing, picks):
    found = []
    for place, pick in enumerate(picks):
        if not is_pair(pick):
            raise InvalidRow(place)
        try:
            standing = come(book, standing, pick[0], pick[1])
        except ShareError:
            raise InvalidRow(place) from None
        found.append(standing)
    return found
