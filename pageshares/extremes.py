"""Extremes: the greatest and the least values that can come, and the bounds and the lots of uses that show them."""

from pageshares.amounts import is_fraction, is_less
from pageshares.changes import all_changes
from pageshares.checks import check_comings, checked_short_standing, checked_standing, is_integer, is_list_of
from pageshares.errors import InvalidBound, InvalidCall, InvalidFraction, LimitExceeded
from pageshares.layers import check_size, packed, unpacked
from pageshares.vectors import (
    check_prices, common_denominator, exchanged, is_vector, paired, quotient, times, whole_vector, wholes,
)

SIDES = ("most", "fewest")
MOST_COMINGS = 12
MOST_LENGTH = 2000


def extreme(book, counts, prices, n, *, side="most"):
    """Return the greatest or the least value that can be there after n comings, and a row of picks to it."""
    standing = checked_short_standing(book, counts)
    check_prices(book, prices)
    check_comings(n, MOST_COMINGS)
    check_side(side)
    layers = _layers(book, standing, n)
    numbers, below = whole_vector(prices)
    found = [(paired(numbers, unpacked(code, len(book))), code) for code in layers[-1]]
    number, code = max(found) if side == "most" else min(found)
    return (quotient(number, below), _picks_to(layers, code))


def is_bound(book, prices, rho, heights, *, side="most"):
    """Whether rho and the heights are a bound of the side."""
    check_prices(book, prices)
    check_side(side)
    if not is_fraction(rho) or not _are_heights(book, heights):
        return False
    return _is_bound(book, prices, rho, heights, side)


def bound_value(book, counts, prices, rho, heights, n, *, side="most"):
    """Return what the value after n comings cannot pass, whatever comes, by the bound of rho and the heights."""
    standing = checked_standing(book, counts)
    check_prices(book, prices)
    if not is_fraction(rho):
        raise InvalidFraction("rho")
    if not _are_heights(book, heights):
        raise InvalidBound("heights")
    if not is_integer(n) or n < 0:
        raise InvalidBound("n")
    check_side(side)
    if not _is_bound(book, prices, rho, heights, side):
        raise InvalidCall("bound")
    limit, totals, below = _whole_bound(prices, rho, heights, side)
    return quotient(_sign(side) * (paired(totals, standing) + limit * n), below)


def use_rate(book, prices, uses):
    """Return what the uses gain at the prices, or None if they are not a lot of uses."""
    check_prices(book, prices)
    if not _are_uses(book, uses):
        return None
    numbers, below = _whole_uses(uses)
    tops, prices_below = whole_vector(prices)
    gains = times(flat(all_changes(book)), tops)
    return quotient(paired(numbers, gains), below * prices_below)


def needs(book, uses):
    """Return the length of the uses, and how many pages of each kind their comings meet."""
    _check_uses(book, uses)
    _, length = _whole_uses(uses)
    return (length, [sum(wholes(part, length)) for part in uses])


def cycle(book, uses):
    """Return the picks of the uses, ascending, each as often as the length times its use."""
    _check_uses(book, uses)
    _, length = _whole_uses(uses)
    if length > MOST_LENGTH:
        raise LimitExceeded(MOST_LENGTH)
    picks = []
    for kind, part in enumerate(uses):
        for number, times_used in enumerate(wholes(part, length)):
            picks.extend([(kind, number) for _ in range(times_used)])
    return picks


def check_side(side):
    """Raise InvalidBound if this is not a side."""
    if side not in SIDES:
        raise InvalidBound("side")


def flat(parts):
    """Return the entries of all the lists in one list."""
    return [entry for part in parts for entry in part]


def _layers(book, standing, n):
    """Return the layers after 0, 1 and so on up to n comings: dicts of the code before and the pick that led here."""
    moves = [[packed(change) for change in changes] for changes in all_changes(book)]
    found = [{packed(standing): None}]
    for _ in range(n):
        found.append(_layer_after(moves, found[-1]))
    return found


def _layer_after(moves, layer):
    after = {}
    for code in layer:
        for kind, count in enumerate(unpacked(code, len(moves))):
            if count > 0:
                for number, change in enumerate(moves[kind]):
                    after[code + change] = (code, (kind, number))
        check_size(after)
    return after


def _picks_to(layers, code):
    picks = []
    place = code
    for layer in layers[:0:-1]:
        place, pick = layer[place]
        picks.append(pick)
    return picks[::-1]


def _sign(side):
    return 1 if side == "most" else -1


def _are_heights(book, value):
    return is_vector(book, value) and not any([is_less(entry, 0) for entry in value])


def _whole_bound(prices, rho, heights, side):
    """Return rho, the prices with the heights, and their denominator, as integers.

    For "fewest" they are those of the negative prices and the negative rho, with which the bound is one for "most".
    """
    sign = _sign(side)
    below = common_denominator([rho] + prices + heights)
    tops = [sign * top for top in wholes(prices, below)]
    totals = [top + height for top, height in zip(tops, wholes(heights, below))]
    return (sign * wholes([rho], below)[0], totals, below)


def _is_bound(book, prices, rho, heights, side):
    limit, totals, _ = _whole_bound(prices, rho, heights, side)
    return all([gain <= limit for gain in times(flat(all_changes(book)), totals)])


def _check_uses(book, uses):
    if not _are_uses(book, uses):
        raise InvalidBound("uses")


def _are_uses(book, value):
    if not is_list_of(value, len(book)) or not all([_has_length(part, book[kind]) for kind, part in enumerate(value)]):
        return False
    if not all([is_fraction(use) and not is_less(use, 0) for use in flat(value)]):
        return False
    numbers, below = _whole_uses(value)
    growth = times(exchanged(flat(all_changes(book))), numbers)
    return sum(numbers) == below and all([number >= 0 for number in growth])


def _has_length(part, lottery):
    return is_list_of(part, len(lottery))


def _whole_uses(uses):
    return whole_vector(flat(uses))
