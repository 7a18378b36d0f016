"""Exact fractions: integers, or tuples of two integers with the second one at least 1."""

from math import gcd

from pageshares.checks import is_integer, is_pair
from pageshares.errors import InvalidFraction


def is_fraction(value):
    """Whether the value is a fraction, in lowest terms or not."""
    if is_pair(value):
        return is_integer(value[0]) and is_integer(value[1]) and value[1] >= 1
    return is_integer(value)


def fraction(value):
    """Return the fraction as a tuple in lowest terms."""
    above, below = _terms(value, "value")
    return _lowest(above, below)


def added(one, other):
    """Return the sum of two fractions."""
    above, below = _terms(one, "one")
    other_above, other_below = _terms(other, "other")
    return _lowest(above * other_below + other_above * below, below * other_below)


def subtracted(one, other):
    """Return the first fraction minus the second one."""
    above, below = _terms(one, "one")
    other_above, other_below = _terms(other, "other")
    return _lowest(above * other_below - other_above * below, below * other_below)


def multiplied(one, other):
    """Return the product of two fractions."""
    above, below = _terms(one, "one")
    other_above, other_below = _terms(other, "other")
    return _lowest(above * other_above, below * other_below)


def is_less(one, other):
    """Whether the first fraction is less than the second one."""
    above, below = _terms(one, "one")
    other_above, other_below = _terms(other, "other")
    return above * other_below < other_above * below


def _terms(value, name):
    if not is_fraction(value):
        raise InvalidFraction(name)
    if is_integer(value):
        return (value, 1)
    return value


def _lowest(above, below):
    shared = gcd(above, below)
    return (above // shared, below // shared)
