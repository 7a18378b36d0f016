"""Section 6: squares and spreads."""

import copy
import unittest
from fractions import Fraction

from pageshares.books import Book
from pageshares.coming import gaps
from pageshares.limits import has_limit, limit
from pageshares.means import mean
from pageshares.plain import is_plain, part, roots
from pageshares.squares import settled_spreads, spread, spread_limit, squares
from tests.bank import all_books, other_books, plain_books, standings
from tests.common import (
    DIGITS_40, DIGITS_4000, lone, mixed, no_fractions, no_integers, no_lists, raised, six, twin,
)
from tests.exact import (
    apply, dot, exact, exact_rows, exacts, jumps_of, matrix_of, pair, pairs, product, spread_after, squares_after,
    turned,
)


def apart():
    """Two kinds that never meet: plain, without a limit."""
    return Book([1, 1], [[(1, [2, 0])], [(1, [0, 2])]])


def bent():
    """A book that is neither plain nor has a limit: its roots are -2 and, twice, 1."""
    return Book([1, 2, 1, 2], [[(1, [2, 0, 0, 0])], [(1, [1, 0, 0, 1])], [(1, [0, 0, 2, 0])], [(1, [3, 0, 0, 0])]])


def settled_books():
    """The plain books with a limit."""
    return [book for book in plain_books() if has_limit(book)]


def price_lists(many):
    """Prices for so many kinds: above and below 0, and fractions."""
    return [[1] * many, list(range(many)), [(-1) ** k * (k + 1) for k in range(many)],
            [(k + 2, 2 * k + 4) if k % 2 else (-7, k + 3) for k in range(many)], [0] * (many - 1) + [1]]


def center_of(book):
    """The matrix C of point [6.4]."""
    v, weights, kinds = exacts(limit(book)), book.weights(), range(len(book))
    jumps = [jumps_of(book, i) for i in kinds]
    return [[sum(weights[i] * v[i] * jumps[i][j][k] for i in kinds) - v[j] * v[k] for k in kinds] for j in kinds]


def grown(book, squares_, mean_, t):
    """The squares after one more coming, as point [6.2] has them."""
    rows, weights, kinds = matrix_of(book), book.weights(), range(len(book))
    left = product(rows, squares_)
    right = product(squares_, turned(rows))
    jumps = [jumps_of(book, i) for i in kinds]
    return [[squares_[j][k] + (left[j][k] + right[j][k]) / t
             + sum(weights[i] * mean_[i] / t * jumps[i][j][k] for i in kinds) for k in kinds] for j in kinds]


class TestSquares(unittest.TestCase):
    def test_known_values(self):
        """[6.1] Numbers that can be found by hand."""
        self.assertEqual(squares(twin(), [1, 0], 4), [[(27, 5), (0, 1)], [(0, 1), (8, 5)]])
        self.assertEqual(squares(twin(), [1, 1], 1), [[(27, 5), (0, 1)], [(0, 1), (8, 5)]])
        self.assertEqual(squares(n=1, counts=[1, 0], book=mixed()), [[(4, 3), (0, 1)], [(0, 1), (2, 3)]])
        self.assertEqual(squares(lone(), [1000000], 60), [[(1000060 ** 2, 1)]])

    def test_no_comings(self):
        """[6.1] At the beginning they are the products of the counts."""
        for book in all_books():
            for counts in standings(len(book)):
                self.assertEqual(squares(book, counts, 0), [[(a * b, 1) for b in counts] for a in counts])

    def test_against_all_standings_that_are_possible(self):
        """[6.1] The mean of the product of the counts of two kinds."""
        for book in all_books():
            for counts in standings(len(book)):
                for n in (1, 3):
                    expected = [pairs(line) for line in squares_after(book, counts, n)]
                    self.assertEqual(squares(book, counts, n), expected)

    def test_recursion_and_weight(self):
        """[6.2] Each follows from the one before it; the sum with the weights is t times the mean."""
        for book in all_books():
            for counts in standings(len(book))[-3:]:
                t = gaps(book, counts)
                for n in (0, 1, 7):
                    found, middle = exact_rows(squares(book, counts, n)), exacts(mean(book, counts, n))
                    expected = grown(book, found, middle, t + n)
                    self.assertEqual(squares(book, counts, n + 1), [pairs(line) for line in expected])
                    self.assertEqual(apply(found, book.weights()), [(t + n) * entry for entry in middle])

    def test_60_comings(self):
        """[6.1] [6.2] The greatest n and the greatest short standing."""
        for book in all_books():
            counts = [1000000 - k for k in range(len(book))]
            t, found = gaps(book, counts), exact_rows(squares(book, counts, 59))
            expected = grown(book, found, exacts(mean(book, counts, 59)), t + 59)
            last = squares(book, counts, 60)
            self.assertEqual(last, [pairs(line) for line in expected])
            self.assertEqual(last, [list(line) for line in zip(*last)])

    def test_wrong_arguments(self):
        """[6.1] [0.8] The short standing, then n from 0 to 60."""
        for counts in no_lists() + [[], [1], [1, 1, 1], [0, 0]]:
            self.assertEqual(raised(squares, twin(), counts, -1), ("InvalidStanding", -1))
        for entry in [-1, 1000001, DIGITS_4000] + no_integers():
            self.assertEqual(raised(squares, twin(), [entry, -1], 61), ("InvalidStanding", 0))
            self.assertEqual(raised(squares, twin(), [0, entry], 61), ("InvalidStanding", 1))
        for n in [-1, 61, DIGITS_40, DIGITS_4000, -DIGITS_4000] + no_integers():
            with self.subTest(repr(n)[:60]):
                self.assertEqual(raised(squares, twin(), [1, 0], n), ("InvalidBound", "n"))


class TestSpread(unittest.TestCase):
    def test_known_values(self):
        """[6.3] Variances that can be found by hand."""
        self.assertEqual(spread(twin(), [1, 0], [1, 1], 4), (6, 25))
        self.assertEqual(spread(prices=[1, 1], n=1, counts=[1, 0], book=mixed()), (2, 9))
        self.assertEqual(spread(twin(), [1, 0], [1, 1], 3), (0, 1))
        self.assertEqual(spread(lone(), [5], [(1, 3)], 60), (0, 1))

    def test_against_all_standings_that_are_possible(self):
        """[6.3] The mean of the square of the value less the square of its mean; at least 0."""
        for book in all_books():
            for counts in standings(len(book)):
                for prices in price_lists(len(book)):
                    self.assertEqual(spread(book, counts, prices, 0), (0, 1))
                    expected = spread_after(book, counts, exacts(prices), 3)
                    self.assertEqual(spread(book, counts, prices, 3), pair(expected))
                    self.assertGreaterEqual(expected, 0)

    def test_by_the_squares(self):
        """[6.1] [6.3] From the squares and the means, up to n = 60."""
        for book in all_books():
            for counts in standings(len(book))[-2:]:
                for n in (9, 60):
                    rows, middle = exact_rows(squares(book, counts, n)), exacts(mean(book, counts, n))
                    for prices in price_lists(len(book)):
                        p = exacts(prices)
                        expected = dot(p, apply(rows, p)) - dot(p, middle) ** 2
                        self.assertEqual(spread(book, counts, prices, n), pair(expected))
                        self.assertGreaterEqual(expected, 0)
                    self.assertEqual(spread(book, counts, book.weights(), n), (0, 1))

    def test_4000_digits(self):
        """[0.4] [6.3] Prices of 4,000 digits: the variance goes by the square of the prices."""
        expected = exact(spread(twin(), [1, 0], [3, 4], 4))
        long = [(3 * DIGITS_4000, DIGITS_40), (4 * DIGITS_4000, DIGITS_40)]
        self.assertEqual(spread(twin(), [1, 0], long, 4), pair(expected * Fraction(DIGITS_4000, DIGITS_40) ** 2))

    def test_wrong_arguments(self):
        """[6.3] [0.8] The short standing, the prices, then n from 0 to 60."""
        for counts in no_lists() + [[], [1], [1, 1, 1], [0, 0]]:
            self.assertEqual(raised(spread, twin(), counts, None, -1), ("InvalidStanding", -1))
        for entry in [-1, 1000001, DIGITS_4000] + no_integers():
            self.assertEqual(raised(spread, twin(), [entry, -1], [1], 61), ("InvalidStanding", 0))
            self.assertEqual(raised(spread, twin(), [0, entry], [1], 61), ("InvalidStanding", 1))
        for prices in no_lists() + [[], [1], [1, 1, 1]] + [[1, price] for price in no_fractions()]:
            with self.subTest(repr(prices)[:60]):
                self.assertEqual(raised(spread, twin(), [1, 0], prices, -1), ("InvalidBound", "prices"))
        for n in [-1, 61, DIGITS_40, DIGITS_4000, -DIGITS_4000] + no_integers():
            with self.subTest(repr(n)[:60]):
                self.assertEqual(raised(spread, twin(), [1, 0], [1, 1], n), ("InvalidBound", "n"))


class TestSettledSpreads(unittest.TestCase):
    def test_known_values(self):
        """[6.4] The document's book, and a book of one kind, whose number of pages is known."""
        expected = [[(108, 637), (-72, 637)], [(-72, 637), (48, 637)]]
        self.assertEqual(settled_spreads(book=twin()), expected)
        self.assertEqual(settled_spreads(lone()), [[(0, 1)]])

    def test_what_they_are(self):
        """[6.4] S = A S + S A' + C, S is symmetric, and each row has the weight 0."""
        for book in settled_books():
            found, rows, kinds = exact_rows(settled_spreads(book)), matrix_of(book), range(len(book))
            left, right, center = product(rows, found), product(found, turned(rows)), center_of(book)
            summed = [[left[j][k] + right[j][k] + center[j][k] for k in kinds] for j in kinds]
            self.assertEqual(found, summed)
            self.assertEqual(found, turned(found))
            self.assertEqual(apply(found, book.weights()), [0] * len(book))

    def test_by_the_parts(self):
        """[6.5] The sum of P(l) C P(m)' / (1 - l - m) over all roots other than 1."""
        for book in settled_books():
            center, kinds = center_of(book), range(len(book))
            parts = {root: exact_rows(part(book, root)) for root, _ in roots(book) if root != 1}
            summed = [[Fraction(0)] * len(book) for _ in kinds]
            for one, left in parts.items():
                self.assertLessEqual(one, 0)
                for other, right in parts.items():
                    term = product(product(left, center), turned(right))
                    summed = [[summed[j][k] + term[j][k] / (1 - one - other) for k in kinds] for j in kinds]
            self.assertEqual(settled_spreads(book), [pairs(line) for line in summed])

    def test_errors(self):
        """[6.4] [0.8] NotPlain, then NoLimit."""
        self.assertEqual(raised(settled_spreads, mixed()), ("NotPlain", 1))
        self.assertEqual(raised(settled_spreads, apart()), ("NoLimit", (0, 1)))
        self.assertEqual([is_plain(bent()), has_limit(bent())], [False, False])
        self.assertEqual(raised(settled_spreads, bent()), ("NotPlain", 3))
        for book in other_books():
            error = ("NotPlain", sum(dimension for _, dimension in roots(book)))
            self.assertEqual(raised(settled_spreads, book), error)
        for book in plain_books():
            if not has_limit(book):
                self.assertEqual(raised(settled_spreads, book), raised(limit, book))


class TestSpreadLimit(unittest.TestCase):
    def test_known_values(self):
        """[6.5] The document's book, and prices at which nothing varies."""
        self.assertEqual(spread_limit(twin(), [1, 1]), (12, 637))
        self.assertEqual(spread_limit(prices=[(2, 1), (6, 2)], book=twin()), (0, 1))
        self.assertEqual(spread_limit(lone(), [(5, 3)]), (0, 1))

    def test_by_the_settled_spreads(self):
        """[6.5] The sum of prices[i] * S[i][j] * prices[j]; at least 0."""
        for book in settled_books():
            rows = exact_rows(settled_spreads(book))
            for prices in price_lists(len(book)):
                expected = dot(exacts(prices), apply(rows, exacts(prices)))
                self.assertEqual(spread_limit(book, prices), pair(expected))
                self.assertGreaterEqual(expected, 0)

    def test_spreads_by_gaps_settle_there(self):
        """[6.5] For every beginning the spread divided by the gaps comes closer."""
        tried = 0
        for book in settled_books():
            for counts in ([1] + [0] * (len(book) - 1), [1] * len(book)):
                for prices in price_lists(len(book))[1:3]:
                    goal = exact(spread_limit(book, prices))
                    t = gaps(book, counts)
                    far = [abs(exact(spread(book, counts, prices, n)) / (t + n) - goal) for n in (30, 60)]
                    scale = sum(price * price for price in prices)
                    self.assertLessEqual(far[1], Fraction(scale, 25))
                    self.assertLessEqual(far[1], far[0])
                    tried += far[1] * 1000 < scale
        self.assertGreater(tried, 20)

    def test_4000_digits(self):
        """[0.4] [6.5] Prices of 4,000 digits."""
        expected = exact(spread_limit(twin(), [3, 4])) * DIGITS_4000 ** 2
        self.assertEqual(spread_limit(twin(), [3 * DIGITS_4000, 4 * DIGITS_4000]), pair(expected))

    def test_errors(self):
        """[6.5] [0.8] The prices, NotPlain, then NoLimit."""
        for book in (twin(), mixed(), apart()):
            for prices in no_lists() + [[], [1], [1, 1, 1]] + [[price, 1] for price in no_fractions()]:
                self.assertEqual(raised(spread_limit, book, prices), ("InvalidBound", "prices"))
        self.assertEqual(raised(spread_limit, mixed(), [0, 0]), ("NotPlain", 1))
        self.assertEqual(raised(spread_limit, bent(), [1, 1, 1, 1]), ("NotPlain", 3))
        self.assertEqual(raised(spread_limit, apart(), [0, 0]), ("NoLimit", (0, 1)))


class TestCopies(unittest.TestCase):
    def test_what_is_passed_is_not_changed(self):
        """[0.6] [0.11] No list that is passed is changed, and no book."""
        counts, prices, book = [1, 1], [(2, 4), 3], twin()
        squares(book, counts, 3)
        spread(book, counts, prices, 3)
        settled_spreads(book)
        spread_limit(book, prices)
        raised(spread, book, counts, prices, 61)
        self.assertEqual([counts, prices, book == twin()], [[1, 1], [(2, 4), 3], True])

    def test_returned_lists_are_new(self):
        """[0.6] Each returned list is a new one at each call, and so is each list inside it."""
        for call in (lambda: squares(six(), [1] * 6, 2), lambda: squares(twin(), [1, 1], 0),
                     lambda: settled_spreads(twin()), lambda: settled_spreads(lone())):
            first, second = call(), call()
            kept = copy.deepcopy(second)
            first[0][0] = None
            first[-1].append(None)
            first.append(None)
            self.assertEqual([second, call()], [kept, kept])

    def test_lowest_terms(self):
        """[0.3] Lists of lists of tuples in lowest terms."""
        for rows in (squares(mixed(), [1, 1], 3), settled_spreads(twin())):
            self.assertEqual([type(rows), type(rows[0])], [list, list])
            for entry in rows[0] + rows[1]:
                self.assertEqual([type(entry), entry], [tuple, pair(exact(entry))])


if __name__ == "__main__":
    unittest.main()
