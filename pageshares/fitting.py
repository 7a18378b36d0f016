"""For a given scale: a hold with this scale, or a refusal, which shows that there is none."""

from pageshares.amounts import fraction, multiplied
from pageshares.bounding import least_bound
from pageshares.checks import is_list_of
from pageshares.errors import InvalidBound
from pageshares.vectors import is_positive_vector, is_vector, paired, quotient, whole_matrix, whole_vector


def fitted_hold(book, scale):
    """Return ("hold", shift) with a hold of this scale, or ("none", refusal) with a refusal of the scale.

    Let sizes[j][i] be scale[j] * A[j][i] / weights[i]. A hold has, for each kind i and for all signs of the other
    kinds, a sum of at most 0 over all j of sign[j] * (sizes[j][i] - scale[j] * shift[j]), where the sign of i is 1.
    Two of these with all other signs turned round say that scale[i] * shift[i] is at least sizes[i][i]. By how much
    it is above this is the height of i, so there is a hold if the heights have a bound of at most 0.
    """
    _check_scale(book, scale)
    sizes, below = _sizes(book, scale)
    signs = _all_signs(len(book))
    gains = [_gain(sizes, kind, line) for kind, line in signs]
    columns = [[-sign for sign in line] for _, line in signs]
    # The column of zeros stops the bound at 0: below it there may be no least one.
    rho, heights, uses, divisor = least_bound(gains + [0], columns + [[0 for _ in scale]])
    if rho > 0:
        return ("none", _refusal(book, signs, uses, divisor))
    tops = [divisor * sizes[kind][kind] + height for kind, height in enumerate(heights)]
    return ("hold", [_divided(quotient(top, divisor * below), entry) for top, entry in zip(tops, scale)])


def is_refusal(book, scale, value):
    """Whether the value is a refusal of the scale."""
    _check_scale(book, scale)
    if not is_list_of(value, len(book)) or not all([is_vector(book, line) for line in value]):
        return False
    rows, _ = whole_matrix(value)
    if not _is_ruled_by_diagonal(rows) or any([paired(book.weights(), line) != 0 for line in rows]):
        return False
    numbers, _ = whole_vector(scale)
    matrix, _ = whole_matrix(book.matrix())
    return sum([number * paired(line, other) for number, line, other in zip(numbers, rows, matrix)]) > 0


def _check_scale(book, scale):
    if not is_positive_vector(book, scale):
        raise InvalidBound("scale")


def _is_ruled_by_diagonal(rows):
    kinds = range(len(rows))
    return all([abs(rows[j][i]) <= rows[i][i] for i in kinds for j in kinds])


def _sizes(book, scale):
    """Return the numbers scale[j] * A[j][i] / weights[i] as rows of integers, and their denominator."""
    weights = book.weights()
    rows = []
    for size, line in zip(scale, book.matrix()):
        rows.append([multiplied(size, multiplied(entry, (1, weight))) for entry, weight in zip(line, weights)])
    return whole_matrix(rows)


def _all_signs(many):
    """Return tuples of a kind and a list of signs, 1 or -1, for each kind: all lists in which its own sign is 1."""
    found = []
    for kind in range(many):
        lines = [[]]
        for place in range(many):
            lines = [line + [sign] for line in lines for sign in ([1] if place == kind else [1, -1])]
        found.extend([(kind, line) for line in lines])
    return found


def _gain(sizes, kind, signs):
    return sum([sign * (line[kind] - line[place]) for place, (sign, line) in enumerate(zip(signs, sizes))])


def _refusal(book, signs, uses, divisor):
    """Return the refusal that adds up the conditions of a hold, each as often as its use says."""
    kinds = range(len(book))
    rows = [[0 for _ in kinds] for _ in kinds]
    for (kind, line), use in zip(signs, uses):
        for place, sign in enumerate(line):
            rows[place][kind] = rows[place][kind] + sign * use
    # The sum of a row may still be below 0, as the heights are not. What is missing comes from the conditions of the
    # row's own kind in pairs with the other signs turned round.
    for kind in kinds:
        rows[kind][kind] = rows[kind][kind] - sum(rows[kind])
    weights = book.weights()
    return [[quotient(entry, divisor * weight) for entry, weight in zip(line, weights)] for line in rows]


def _divided(one, other):
    above, below = fraction(other)
    return multiplied(one, (below, above))
