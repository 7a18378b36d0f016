"""Squares: the means of products of two numbers of pages, and the spreads of values."""

from pageshares.amounts import added, multiplied
from pageshares.changes import all_changes, chance_scale, whole_chances
from pageshares.checks import check_comings, checked_short_standing
from pageshares.coming import gaps
from pageshares.limits import limit
from pageshares.means import stepped
from pageshares.plain import parts
from pageshares.vectors import (
    applied, check_prices, exchanged, inner, matrix_product, over, paired, quotient, times, whole_product,
    whole_vector, wholes,
)

MOST_COMINGS = 60


def squares(book, counts, n):
    """Return the means of the products of the counts of two kinds after n comings."""
    standing = checked_short_standing(book, counts)
    check_comings(n, MOST_COMINGS)
    rows, _, below = _whole_squares(book, standing, n)
    return [over(line, below) for line in rows]


def spread(book, counts, prices, n):
    """Return the variance of the value after n comings."""
    standing = checked_short_standing(book, counts)
    check_prices(book, prices)
    check_comings(n, MOST_COMINGS)
    rows, numbers, below = _whole_squares(book, standing, n)
    whole_prices, prices_below = whole_vector(prices)
    square = paired(whole_prices, times(rows, whole_prices))
    middle = paired(whole_prices, numbers)
    divisor = below * prices_below
    return quotient(square * below - middle * middle, divisor * divisor)


def settled_spreads(book):
    """Return the matrix S of the settled spreads of a plain book that has a limit."""
    found = [pair for pair in parts(book) if pair[0] != 1]
    source = _source(book, limit(book))
    total = [[(0, 1) for _ in line] for line in source]
    for one, matrix in found:
        left = matrix_product(matrix, source)
        for other, other_matrix in found:
            term = matrix_product(left, exchanged(other_matrix))
            total = _with_share(total, term, (1, 1 - one - other))
    return total


def spread_limit(book, prices):
    """Return the number at which the spread of the value divided by the gaps settles."""
    check_prices(book, prices)
    return inner(prices, applied(settled_spreads(book), prices))


def _whole_squares(book, standing, n):
    """Return the integers of the squares and of the means after n comings, and their common denominator."""
    scale = chance_scale(book)
    steps = [wholes(line, scale) for line in book.matrix()]
    jumps = _jumps(book, scale)
    weights = book.weights()
    start = gaps(book, standing)
    rows = [[one * other for other in standing] for one in standing]
    numbers = standing
    below = 1
    for t in range(start, start + n):
        amount = scale * t
        met = [weight * number for weight, number in zip(weights, numbers)]
        rows = _stepped_squares(rows, steps, amount, _summed_jumps(jumps, met))
        numbers = stepped(steps, amount, numbers)
        below = below * amount
    return (rows, numbers, below)


def _stepped_squares(rows, steps, amount, jumped):
    # The squares are symmetric, so M A' is A M with rows and columns exchanged.
    grown = whole_product(steps, rows)
    kinds = range(len(rows))
    return [[amount * rows[j][k] + grown[j][k] + grown[k][j] + jumped[j][k] for k in kinds] for j in kinds]


def _jumps(book, scale):
    """Return the matrices D(i) of all kinds i, multiplied by the scale."""
    return [_jump(amounts, changes) for amounts, changes in zip(whole_chances(book, scale), all_changes(book))]


def _jump(amounts, changes):
    entries = list(zip(amounts, changes))
    kinds = range(len(changes[0]))
    return [[sum([amount * change[j] * change[k] for amount, change in entries]) for k in kinds] for j in kinds]


def _summed_jumps(jumps, amounts):
    kinds = range(len(jumps))
    pairs = list(zip(amounts, jumps))
    return [[sum([amount * jump[j][k] for amount, jump in pairs]) for k in kinds] for j in kinds]


def _source(book, center):
    """Return the matrix C of a book with this limit."""
    scale = chance_scale(book)
    numbers, below = whole_vector(center)
    met = [weight * number for weight, number in zip(book.weights(), numbers)]
    jumped = _summed_jumps(_jumps(book, scale), met)
    kinds = range(len(book))
    rows = [[below * jumped[j][k] - scale * numbers[j] * numbers[k] for k in kinds] for j in kinds]
    return [over(line, scale * below * below) for line in rows]


def _with_share(total, term, share):
    """Return the total plus the term, each of its entries multiplied by the share."""
    kinds = range(len(total))
    return [[added(total[j][k], multiplied(share, term[j][k])) for k in kinds] for j in kinds]
