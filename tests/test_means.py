"""Section 5: means, and the values of vectors."""

import copy
import inspect
import unittest
from fractions import Fraction

from pageshares.books import Book
from pageshares.coming import gaps
from pageshares.means import mean, means, value
from tests.bank import all_books, standings
from tests.common import (
    DIGITS_40, DIGITS_4000, lone, mixed, no_fractions, no_integers, no_lists, raised, six, twin,
)
from tests.exact import apply, dot, exact, exacts, gaps_of, matrix_of, mean_after, pair, pairs


def first_means(book, counts, n):
    """All the yielded vectors."""
    return list(means(book, counts, n))


class TestMean(unittest.TestCase):
    def test_known_values(self):
        """[5.1] [5.3] Numbers that can be found by hand."""
        self.assertEqual(mean(twin(), [1, 0], 4), [(9, 5), (4, 5)])
        self.assertEqual(mean(twin(), [1, 1], 1), [(9, 5), (4, 5)])
        self.assertEqual(mean(mixed(), [1, 0], 1), [(2, 3), (2, 3)])
        self.assertEqual(mean(mixed(), [1, 1], 1), [(14, 9), (11, 9)])
        self.assertEqual(mean(n=1, counts=[0, 1], book=mixed()), [(1, 1), (1, 1)])

    def test_against_all_standings_that_are_possible(self):
        """[5.1] The sum, over all standings that are possible, of the standing times its chance."""
        for book in all_books():
            for counts in standings(len(book)):
                for n in (1, 2, 4):
                    self.assertEqual(mean(book, counts, n), pairs(mean_after(book, counts, n)))

    def test_no_comings(self):
        """[5.1] MEAN(0) is the standing at the beginning."""
        for book in all_books():
            for counts in standings(len(book)):
                self.assertEqual(mean(book, counts, 0), [(count, 1) for count in counts])

    def test_one_kind(self):
        """[5.1] With one kind each coming adds a page."""
        for n in (0, 1, 60, 200):
            self.assertEqual(mean(lone(), [3], n), [(3 + n, 1)])
            self.assertEqual(mean(lone(), [1000000], n), [(1000000 + n, 1)])

    def test_200_comings(self):
        """[5.2] [5.3] The recursion up to the greatest n, also from the greatest short standing."""
        for book in all_books():
            rows, many = matrix_of(book), len(book)
            for counts in ([1] * many, [1000000 - k for k in range(many)]):
                vector, t = [Fraction(count) for count in counts], gaps_of(book, counts)
                for n in range(200):
                    vector = [a + b / (t + n) for a, b in zip(vector, apply(rows, vector))]
                self.assertEqual(mean(book, counts, 200), pairs(vector))

    def test_recursion_and_weight(self):
        """[5.2] Each mean follows from the one before it, and its weight is the number of gaps."""
        for book in all_books():
            rows = matrix_of(book)
            for counts in standings(len(book)):
                found = [exacts(vector) for vector in means(book, counts, 30)]
                t = gaps(book, counts)
                for n, vector in enumerate(found):
                    self.assertEqual(dot(book.weights(), vector), t + n)
                    if n < 30:
                        grown = [a + b / (t + n) for a, b in zip(vector, apply(rows, vector))]
                        self.assertEqual(found[n + 1], grown)

    def test_linear_while_the_gaps_are_the_same(self):
        """[5.5] The mean of a standing half-way between two others is half-way between theirs."""
        book = twin()
        for x, y, z in (([6, 0], [0, 4], [3, 2]), ([7, 2], [1, 6], [4, 4]), ([9, 0], [3, 4], [6, 2])):
            self.assertEqual(gaps(book, x), gaps(book, y))
            for n in (0, 1, 2, 7, 200):
                middle = [(a + b) / 2 for a, b in zip(exacts(mean(book, x, n)), exacts(mean(book, y, n)))]
                self.assertEqual(mean(book, z, n), pairs(middle))
        for book in all_books():
            weights = book.weights()
            for k in range(1, len(book)):
                # The first has as many gaps as the second: pages of two kinds are exchanged by their weights.
                x, y, z = [[2] * len(book) for _ in range(3)]
                x[0] += 2 * weights[k]
                y[k] += 2 * weights[0]
                z[0] += weights[k]
                z[k] += weights[0]
                for n in (1, 6, 40):
                    middle = [(a + b) / 2 for a, b in zip(exacts(mean(book, x, n)), exacts(mean(book, y, n)))]
                    self.assertEqual(mean(book, z, n), pairs(middle))


class TestMeans(unittest.TestCase):
    def test_known_values(self):
        """[5.3] MEAN(0), MEAN(1) and so on up to MEAN(n)."""
        self.assertEqual(first_means(twin(), [1, 0], 1), [[(1, 1), (0, 1)], [(0, 1), (1, 1)]])
        self.assertEqual(list(means(n=0, counts=[4, 5], book=twin())), [[(4, 1), (5, 1)]])

    def test_n_plus_1_vectors(self):
        """[5.3] Each of the n + 1 vectors is the one of `mean`."""
        for book in all_books():
            for counts in standings(len(book))[-2:]:
                self.assertEqual(first_means(book, counts, 12), [mean(book, counts, n) for n in range(13)])
        found = first_means(six(), [1000000] * 6, 200)
        self.assertEqual([len(found), found[-1]], [201, mean(six(), [1000000] * 6, 200)])

    def test_it_is_a_generator(self):
        """[5.3] The vectors come one after another."""
        self.assertTrue(inspect.isgeneratorfunction(means))
        it = means(twin(), [1, 0], 1)
        self.assertEqual([next(it), next(it), next(it, None)], [[(1, 1), (0, 1)], [(0, 1), (1, 1)], None])

    def test_the_error_comes_with_the_first_item(self):
        """[0.12] The error of an argument is raised at the latest when the first item is requested."""
        self.assertEqual(raised(lambda: next(means(twin(), [0, 0], 3))), ("InvalidStanding", -1))
        self.assertEqual(raised(lambda: next(means(twin(), [0, 1], 201))), ("InvalidBound", "n"))

    def test_several_under_way(self):
        """[0.12] Calls that are under way at the same time do not influence one another."""
        book, other = mixed(), twin()
        expected, other_expected = first_means(book, [2, 2], 20), first_means(other, [1, 4], 20)
        first, second, third = means(book, [2, 2], 20), means(book, [2, 2], 20), means(other, [1, 4], 20)
        self.assertEqual([next(first), next(first), next(first)], expected[:3])
        for k in range(18):
            found = [next(second), next(third), next(first)]
            self.assertEqual(found, [expected[k], other_expected[k], expected[k + 3]])
        self.assertEqual(next(first, None), None)
        self.assertEqual([list(second), list(third)], [expected[18:], other_expected[18:]])

    def test_changes_of_lists_have_no_effect(self):
        """[0.6] [0.12] Neither those of the passed list after the first item nor those of yielded vectors."""
        counts = [2, 2]
        expected = first_means(mixed(), counts, 8)
        it = means(mixed(), counts, 8)
        found = [list(next(it))]
        counts[0] = 9
        counts.pop()
        for vector in it:
            found.append(list(vector))
            vector[0] = (7, 1)
            vector.clear()
        self.assertEqual(found, expected)


class TestErrors(unittest.TestCase):
    def wrong(self, counts, n, error):
        self.assertEqual(raised(mean, twin(), counts, n), error)
        self.assertEqual(raised(lambda: first_means(twin(), counts, n)), error)

    def test_short_standings(self):
        """[4.1] [5.3] An entry above 1,000,000 is a wrong entry too."""
        for value_ in no_lists() + [[], [1], [1, 1, 1]]:
            self.wrong(value_, 4, ("InvalidStanding", -1))
        for entry in [-1, 1000001, DIGITS_40, DIGITS_4000, -DIGITS_4000] + no_integers():
            self.wrong([entry, 1], 4, ("InvalidStanding", 0))
            self.wrong([0, entry], 4, ("InvalidStanding", 1))
        self.wrong([0, 0], 4, ("InvalidStanding", -1))

    def test_n(self):
        """[5.3] n is an integer from 0 to 200."""
        for n in [-1, 201, 10 ** 40, DIGITS_4000, -DIGITS_4000] + no_integers():
            with self.subTest(repr(n)[:60]):
                self.wrong([1, 0], n, ("InvalidBound", "n"))

    def test_sequence(self):
        """[0.8] [5.3] The standing, then n."""
        self.wrong([0, 0], 201, ("InvalidStanding", -1))
        self.wrong([1000001, -1], None, ("InvalidStanding", 0))
        self.wrong([1, -1], -1, ("InvalidStanding", 1))


class TestValue(unittest.TestCase):
    def test_known_values(self):
        """[5.4] The sum of price times entry."""
        self.assertEqual(value(twin(), [1, 1], [(9, 5), (4, 5)]), (13, 5))
        self.assertEqual(value(twin(), [(-1, 2), 3], [4, 5]), (13, 1))
        self.assertEqual(value(twin(), [0, 0], [4, 5]), (0, 1))
        self.assertEqual(value(amounts=[(2, 4), (-3, 9)], prices=[(2, 6), (5, 5)], book=mixed()), (-1, 6))
        self.assertEqual(value(lone(), [-7], [(1, 7)]), (-1, 1))

    def test_against_python_fractions(self):
        """[0.3] [0.4] [5.4] Exact, also with integers of 4,000 digits."""
        numbers = [3, -5, (7, 3), (-10, 4), (0, 6), (DIGITS_40, 9), (-1, DIGITS_4000), (DIGITS_4000, DIGITS_40), 0]
        for k in range(len(numbers)):
            for step in (1, 2, 4):
                prices = [numbers[(k + step * j) % 9] for j in range(6)]
                amounts = [numbers[(5 * k + j) % 9] for j in range(6)]
                self.assertEqual(value(six(), prices, amounts), pair(dot(exacts(prices), exacts(amounts))))

    def test_of_means(self):
        """[5.4] The value of a mean is the mean of the values; at the weights as prices it is the gaps."""
        for book in all_books():
            counts = [2] * len(book)
            for n, vector in enumerate(means(book, counts, 5)):
                self.assertEqual(value(book, book.weights(), vector), (gaps(book, counts) + n, 1))

    def test_wrong_prices(self):
        """[5.4] Prices are a list of fractions, one for each kind."""
        for prices in no_lists() + [[], [1], [1, 1, 1], (1, 1)]:
            self.assertEqual(raised(value, twin(), prices, [1, 1]), ("InvalidBound", "prices"))
        for price in no_fractions():
            with self.subTest(repr(price)[:60]):
                self.assertEqual(raised(value, twin(), [price, 1], [1, 1]), ("InvalidBound", "prices"))
                self.assertEqual(raised(value, twin(), [1, price], [1, 1]), ("InvalidBound", "prices"))

    def test_wrong_amounts(self):
        """[5.4] So are the amounts; the prices are checked before them."""
        for amounts in no_lists() + [[], [1], [1, 1, 1], (1, 1)]:
            self.assertEqual(raised(value, twin(), [1, 1], amounts), ("InvalidBound", "amounts"))
            self.assertEqual(raised(value, twin(), [1, None], amounts), ("InvalidBound", "prices"))
        for amount in no_fractions():
            with self.subTest(repr(amount)[:60]):
                self.assertEqual(raised(value, twin(), [1, 1], [amount, 1]), ("InvalidBound", "amounts"))
                self.assertEqual(raised(value, twin(), [1, 1], [1, amount]), ("InvalidBound", "amounts"))


class TestCopies(unittest.TestCase):
    def test_what_is_passed_is_not_changed(self):
        """[0.6] [0.11] No list that is passed is changed, and no book."""
        counts, prices, amounts = [1, 1], [(2, 4), 3], [(3, 9), 1]
        book = Book([1, 2], [[((1, 3), [2, 0]), ((2, 3), [0, 1])], [(1, [1, 1])]])
        mean(book, counts, 9)
        first_means(book, counts, 9)
        value(book, prices, amounts)
        raised(mean, book, counts, 201)
        self.assertEqual([counts, prices, amounts], [[1, 1], [(2, 4), 3], [(3, 9), 1]])
        self.assertEqual(book, mixed())

    def test_returned_lists_are_new(self):
        """[0.6] Each returned list is a new one at each call."""
        counts = [1, 1]
        first, second = mean(mixed(), counts, 3), mean(mixed(), counts, 3)
        kept = copy.deepcopy(second)
        first[0] = None
        first.append(None)
        self.assertEqual([second, mean(mixed(), counts, 3), counts], [kept, kept, [1, 1]])

    def test_kinds_of_values(self):
        """[0.3] Lists of tuples of two integers in lowest terms."""
        for vector in [mean(mixed(), [1, 1], 3)] + first_means(mixed(), [1, 1], 3):
            self.assertIs(type(vector), list)
            for entry in vector:
                self.assertEqual([type(entry), type(entry[0]), type(entry[1])], [tuple, int, int])
                self.assertEqual(entry, pair(exact(entry)))


if __name__ == "__main__":
    unittest.main()
