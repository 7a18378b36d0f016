"""Vectors and matrices of fractions, and their integers over one common denominator.

The longer computations go on in integers over one denominator, so that only what is returned is put in lowest terms.
"""

from math import lcm

from pageshares.amounts import fraction, is_fraction, is_less
from pageshares.checks import is_list_of
from pageshares.errors import InvalidBound


def is_vector(book, value):
    """Whether the value is a list of fractions, one for each kind of the book."""
    return is_list_of(value, len(book)) and all([is_fraction(entry) for entry in value])


def is_positive_vector(book, value):
    """Whether the value is a list of fractions above 0, one for each kind of the book."""
    return is_vector(book, value) and all([is_less(0, entry) for entry in value])


def check_prices(book, prices):
    """Raise InvalidBound if these are not prices for the book."""
    if not is_vector(book, prices):
        raise InvalidBound("prices")


def quotient(above, below):
    """Return the fraction of two integers, the second of which is not 0."""
    if below < 0:
        return fraction((-above, -below))
    return fraction((above, below))


def over(numbers, below):
    """Return the vector of the integers, each divided by the denominator."""
    return [quotient(number, below) for number in numbers]


def common_denominator(values):
    """Return the least integer of at least 1 whose product with each of the fractions is an integer."""
    below = 1
    for value in values:
        below = lcm(below, fraction(value)[1])
    return below


def wholes(values, below):
    """Return the products of the fractions and a common denominator, as integers."""
    lowest = [fraction(value) for value in values]
    return [above * (below // low) for above, low in lowest]


def whole_vector(values):
    """Return the integers of a list of fractions, and their denominator."""
    below = common_denominator(values)
    return (wholes(values, below), below)


def whole_matrix(matrix):
    """Return the rows of integers of a list of vectors, and their denominator."""
    below = common_denominator([entry for line in matrix for entry in line])
    return ([wholes(line, below) for line in matrix], below)


def paired(one, other):
    """Return the sum of the products of the entries of two lists of integers."""
    return sum([left * right for left, right in zip(one, other)])


def times(rows, numbers):
    """Return the product of rows of integers and a list of integers."""
    return [paired(line, numbers) for line in rows]


def exchanged(rows):
    """Return the matrix with rows and columns exchanged."""
    return [list(column) for column in zip(*rows)]


def whole_product(one, other):
    """Return the product of two matrices of integers."""
    columns = exchanged(other)
    return [[paired(line, column) for column in columns] for line in one]


def inner(one, other):
    """Return the sum of the products of the entries of two vectors."""
    left, left_below = whole_vector(one)
    right, right_below = whole_vector(other)
    return quotient(paired(left, right), left_below * right_below)


def combined(amounts, vectors):
    """Return the sum of the vectors, each multiplied by its amount."""
    tops, amounts_below = whole_vector(amounts)
    rows, below = whole_matrix(vectors)
    return over(times(exchanged(rows), tops), amounts_below * below)


def applied(matrix, vector):
    """Return the product of a matrix and a vector."""
    return combined(vector, exchanged(matrix))


def matrix_product(one, other):
    """Return the product of two matrices."""
    left, left_below = whole_matrix(one)
    right, right_below = whole_matrix(other)
    return [over(line, left_below * right_below) for line in whole_product(left, right)]
