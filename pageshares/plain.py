"""Plain books: the roots of a book, the parts that belong to them, and the means in closed form."""

from pageshares.checks import check_comings, checked_standing, is_integer, is_integer_within
from pageshares.coming import gaps
from pageshares.elimination import rank
from pageshares.errors import InvalidBound, NotPlain
from pageshares.vectors import applied, combined, over, quotient, whole_matrix, whole_product

LEAST_ROOT = -25
GREATEST_ROOT = 1
MOST_COMINGS = 10 ** 40


def roots(book):
    """Return the tuples (root, dimension) of all roots of the book."""
    rows, below = whole_matrix(book.matrix())
    found = []
    for root in range(LEAST_ROOT, GREATEST_ROOT + 1):
        dimension = len(book) - rank(_shifted(rows, below * root))
        if dimension > 0:
            found.append((root, dimension))
    return found


def is_plain(book):
    """Whether the dimensions of the roots add up to the number of kinds."""
    return _dimensions(roots(book)) == len(book)


def part(book, root):
    """Return the part of a plain book that belongs to the root."""
    if not is_integer_within(root, LEAST_ROOT, GREATEST_ROOT):
        raise InvalidBound("root")
    found = dict(parts(book))
    if root not in found:
        raise InvalidBound("root")
    return found[root]


def parts(book):
    """Return the tuples of each root and its part, or raise NotPlain."""
    pairs = roots(book)
    if _dimensions(pairs) != len(book):
        raise NotPlain(_dimensions(pairs))
    found = [root for root, _ in pairs]
    rows, below = whole_matrix(book.matrix())
    return [(root, _part(rows, below, found, root)) for root in found]


def factor(root, start, n):
    """Return the product of (s + root) / s over the n integers s from the start on."""
    if not is_integer_within(root, LEAST_ROOT, GREATEST_ROOT):
        raise InvalidBound("root")
    if not is_integer(start) or start < 1:
        raise InvalidBound("start")
    check_comings(n, MOST_COMINGS)
    return _factor(root, start, n)


def far_mean(book, counts, n):
    """Return MEAN(n) of a plain book."""
    standing = checked_standing(book, counts)
    check_comings(n, MOST_COMINGS)
    start = gaps(book, standing)
    found = parts(book)
    factors = [_factor(root, start, n) for root, _ in found]
    return combined(factors, [applied(matrix, standing) for _, matrix in found])


def still(book, counts):
    """Return the least number of comings from which on the rest is 0, or None."""
    standing = checked_standing(book, counts)
    start = gaps(book, standing)
    met = [root for root, _ in _meetings(book, standing)]
    if any([-root < start for root in met]):
        return None
    return max([1 - root - start for root in met], default=0)


def leading(book, counts):
    """Return the root and the vector that tell how the rest vanishes, or None if it becomes 0."""
    standing = checked_standing(book, counts)
    start = gaps(book, standing)
    lasting = [meeting for meeting in _meetings(book, standing) if -meeting[0] < start]
    if not lasting:
        return None
    return lasting[-1]


def _dimensions(pairs):
    return sum([dimension for _, dimension in pairs])


def _shifted(rows, amount):
    return [[entry - amount if i == j else entry for i, entry in enumerate(line)] for j, line in enumerate(rows)]


def _part(rows, below, all_roots, root):
    found = _shifted([[0 for _ in line] for line in rows], -1)
    divisor = 1
    for other in all_roots:
        if other != root:
            found = whole_product(_shifted(rows, below * other), found)
            divisor = divisor * below * (root - other)
    return [over(line, divisor) for line in found]


def _factor(root, start, n):
    if root == 1:
        return quotient(start + n, start)
    if start <= -root < start + n:
        return (0, 1)
    if -root < start:
        # All but the outermost numbers cancel, so n may be very great.
        tops = [start - k for k in range(1, 1 - root)]
        lows = [start + n - k for k in range(1, 1 - root)]
    else:
        tops = [s + root for s in range(start, start + n)]
        lows = list(range(start, start + n))
    return quotient(_product(tops), _product(lows))


def _product(numbers):
    found = 1
    for number in numbers:
        found = found * number
    return found


def _meetings(book, standing):
    """Return the roots other than 1 that meet the standing, each with the vector of its part."""
    found = [(root, applied(matrix, standing)) for root, matrix in parts(book) if root != 1]
    return [(root, vector) for root, vector in found if any([entry != (0, 1) for entry in vector])]
