"""Rates: how much the value can gain for each coming in the long run, with what shows it."""

from pageshares.bounding import least_bound
from pageshares.changes import all_changes
from pageshares.extremes import check_side, flat
from pageshares.vectors import check_prices, over, quotient, times, whole_vector


def rate(book, prices, *, side="most"):
    """Return the rho of the side, heights with which it is a bound, and uses whose rate it is."""
    check_prices(book, prices)
    check_side(side)
    # The least numbers are the negatives of the greatest ones at the negative prices.
    sign = 1 if side == "most" else -1
    numbers, below = whole_vector(prices)
    changes = all_changes(book)
    gains = [sign * gain for gain in times(flat(changes), numbers)]
    rho, heights, uses, divisor = least_bound(gains, flat(changes))
    shares = over(uses, divisor)
    return (quotient(sign * rho, divisor * below), over(heights, divisor * below), _regrouped(shares, changes))


def _regrouped(entries, parts):
    """Return the entries in lists as long as the parts."""
    found = []
    start = 0
    for part in parts:
        found.append(entries[start:start + len(part)])
        start = start + len(part)
    return found
