"""The difference of the means' values of two plain books, as a sum over their roots."""

from pageshares.amounts import added, multiplied, subtracted
from pageshares.coming import gaps
from pageshares.plain import factor, parts
from pageshares.polynomials import differences, moved, next_differences, with_factor
from pageshares.vectors import applied, inner, quotient, whole_vector

MOST_PAPER = 5000


class Contrast:
    """What the roots of two plain books add to the difference.

    `start` is t0, `first` is H and `most` is K. `terms` has for each root an integer over `scale`, and `below` is the
    denominator of the numerators.
    """

    def __init__(self, one, x, other, y, prices):
        found = {}
        for root, worth in _worths(one, x, prices):
            found[root] = worth
        for root, worth in _worths(other, y, prices):
            found[root] = subtracted(found.get(root, 0), worth)
        roots = list(found)
        numbers, scale = whole_vector([found[root] for root in roots])
        self.start = gaps(one, x)
        self.first = max(0, 1 - min(roots) - self.start)
        self.most = max([0] + [-root for root in roots if -root < self.start])
        self.terms = {root: number for root, number in zip(roots, numbers)}
        self.scale = scale
        self.below = scale * self.start

    def worth_after(self, n):
        """Return the difference after n comings."""
        if n < self.first:
            return self._early(n)
        divisor = self.below
        for k in range(1, self.most + 1):
            divisor = divisor * (self.start + n - k)
        return quotient(self._numbers(n, 1)[0], divisor)

    def numbers_from(self, n):
        """Return the integers of the numerator for n comings, which are at least H."""
        return self._numbers(n, self.most + 2)

    def is_paper(self, n):
        """Whether n, which is at least H, is a paper."""
        return _is_paper(self.numbers_from(n))

    def least_paper(self):
        """Return the least paper, or None if there is none that is small enough."""
        base = self.numbers_from(self.first)
        low = self.first
        high = MOST_PAPER + 1
        # A paper is followed by papers only, so halving finds the first one.
        while low < high:
            middle = (low + high) // 2
            if _is_paper(moved(base, middle - self.first)):
                high = middle
            else:
                low = middle + 1
        return low if low <= MOST_PAPER else None

    def first_above(self, last):
        """Return the least n up to the last one, which is at least H, with a difference above 0, or None."""
        for n in range(self.first):
            if self._early(n)[0] > 0:
                return n
        # From H on the difference has the sign of the numerator's value, and one value follows from another.
        steps = differences(self.numbers_from(self.first))
        for n in range(self.first, last + 1):
            if steps[0] > 0:
                return n
            steps = next_differences(steps)
        return None

    def _early(self, n):
        total = (0, 1)
        for root, number in self.terms.items():
            total = added(total, multiplied(number, factor(root, self.start, n)))
        return multiplied(total, (1, self.scale))

    def _numbers(self, n, many):
        """Return so many of the first integers of the numerator.

        With T = t0 + n + s it is (..((c T + d) (T - 1) + e[1]) (T - 2) + ..) (T - K) + e[K].
        """
        middle = self.start + n
        top = self.terms[1]
        found = [top * middle + self.terms.get(0, 0) * self.start, top][:many]
        product = self.start
        for k in range(1, self.most + 1):
            product = product * (self.start - k)
            found = with_factor(found, middle - k)[:many]
            found[0] = found[0] + self.terms.get(-k, 0) * product
        return found


def _worths(book, standing, prices):
    """Return the roots of the book, each with the value of its part of the standing."""
    return [(root, inner(prices, applied(matrix, standing))) for root, matrix in parts(book)]


def _is_paper(numbers):
    return not any([number > 0 for number in numbers])
