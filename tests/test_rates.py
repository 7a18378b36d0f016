"""Point 11.6: rates."""

import copy
import unittest
from fractions import Fraction

from pageshares.books import Book
from pageshares.extremes import SIDES, bound_value, extreme, is_bound, use_rate
from pageshares.rates import rate
from tests.bank import all_books, standings
from tests.common import (
    DIGITS_40, DIGITS_4000, check_sequence, lone, mixed, no_fractions, no_integers, no_lists, raised, six, twin,
)
from tests.exact import dot, exact, exacts, moves_of, pair


def price_lists(many):
    """Prices for so many kinds: of both signs, 0, fractions, very unlike ones."""
    return [
        [1] * many,
        [0] * many,
        [-1] * many,
        [(-1) ** k * (k + 1) for k in range(many)],
        [(k - 2, k + 3) for k in range(many)],
        [10 ** (5 * k) for k in range(many)],
        [(1, 10 ** k) for k in range(many)],
        [0] * (many - 1) + [1],
        [1] + [0] * (many - 1),
        [(7 * k * k - 11 * k, 2 * k + 1) for k in range(many)],
    ]


def wide_book():
    """Six kinds of great weights with lotteries of four entries."""
    weights = [12, 11, 10, 9, 8, 1]
    rules = []
    for kind, weight in enumerate(weights[:5]):
        outcomes = [[0] * 5 + [weight + 1], [int(j == kind) for j in range(5)] + [1]]
        outcomes += [[int(j == other) for j in range(5)] + [weight + 1 - weights[other]]
                     for other in ((kind + 1) % 5, (kind + 2) % 5) if weights[other] <= weight]
        rules.append([((1, len(outcomes)), outcome) for outcome in outcomes])
    return Book(weights, rules + [[(1, [0, 0, 0, 0, 0, 2])]])


class TestRate(unittest.TestCase):
    def check(self, book, prices, side):
        """The bound and the uses show that no other rho is right."""
        found = rate(book, prices, side=side)
        rho, heights, uses = found
        self.assertEqual([type(found), len(found), type(heights), type(uses)], [tuple, 3, list, list])
        self.assertIs(is_bound(book, prices, rho, heights, side=side), True)
        self.assertEqual(use_rate(book, prices, uses), rho)
        for entry in [rho] + heights + [use for part in uses for use in part]:
            self.assertEqual([type(entry), entry], [tuple, pair(exact(entry))])
        return rho

    def test_known_values(self):
        """[11.6] By hand."""
        self.assertEqual(rate(twin(), [1, 1]), ((1, 2), [(0, 1), (1, 2)], [[(1, 2)], [(1, 2)]]))
        self.assertEqual(rate(twin(), [1, 1], side="fewest")[0], (1, 3))
        self.assertEqual(rate(prices=[1, 1], book=twin(), side="most")[0], (1, 2))
        self.assertEqual(rate(lone(), [(-7, 2)]), ((-7, 2), [(0, 1)], [[(1, 1)]]))
        self.assertEqual(rate(lone(), [(-7, 2)], side="fewest"), ((-7, 2), [(0, 1)], [[(1, 1)]]))
        self.assertEqual(rate(mixed(), [1, 1])[0], (1, 1))
        self.assertEqual(rate(mixed(), [0, 1], side="fewest")[0], (0, 1))
        self.assertEqual(rate(mixed(), [0, 1])[0], (1, 2))

    def test_all_books(self):
        """[11.6] A bound and a lot of uses with the same rho, for every book, both sides."""
        for book in all_books() + [wide_book()]:
            for prices in price_lists(len(book)):
                for side in SIDES:
                    self.check(book, prices, side)

    def test_no_other_is_better(self):
        """[11.6] No bound has a lesser rho than the rate of any lot of uses, for "fewest" no greater one."""
        for book in all_books():
            lists = price_lists(len(book))[:6]
            lots = [rate(book, prices, side=side)[2] for prices in lists for side in SIDES]
            for prices in lists:
                most, least = exact(rate(book, prices)[0]), exact(rate(book, prices, side="fewest")[0])
                for uses in lots:
                    found = exact(use_rate(book, prices, uses))
                    self.assertTrue(least <= found <= most)
                # Without heights the greatest gain of one coming is a bound as well.
                worths = [dot(exacts(prices), change) for _, _, _, change in moves_of(book)]
                self.assertTrue(min(worths) <= least <= most <= max(worths))

    def test_negative_prices(self):
        """[11.6] The rho for "fewest" is the negative of that for "most" at the negative prices."""
        for book in all_books():
            for prices in price_lists(len(book)):
                negative = [pair(-exact(price)) for price in prices]
                self.assertEqual(exact(rate(book, prices, side="fewest")[0]), -exact(rate(book, negative)[0]))

    def test_weights_as_prices(self):
        """[4.2] [11.6] At the weights as prices each coming gains exactly 1."""
        for book in all_books():
            for side in SIDES:
                self.assertEqual(rate(book, book.weights(), side=side)[0], (1, 1))

    def test_extremes_stay_within(self):
        """[11.4] [11.6] What can come within 12 comings does not pass the bound."""
        for book in all_books():
            for counts in standings(len(book))[-2:]:
                for prices in price_lists(len(book))[3:5]:
                    rho, heights, _ = rate(book, prices)
                    found = exact(extreme(book, counts, prices, 2)[0])
                    self.assertLessEqual(found, exact(bound_value(book, counts, prices, rho, heights, 2)))

    def test_long_integers(self):
        """[0.4] [11.6] Prices of 4,000 digits, for one to six kinds."""
        for book in (twin(), mixed(), lone(), six(), wide_book()):
            for side in SIDES:
                self.check(book, [DIGITS_4000 - (-1) ** k * k for k in range(len(book))], side)
                prices = [((-1) ** k * DIGITS_4000 + k, DIGITS_4000 - k - 1) for k in range(len(book))]
                self.check(book, prices, side)
                self.check(book, [(1, DIGITS_40 + k) for k in range(len(book))], side)

    def test_prices_close_together(self):
        """[11.6] The least differences decide: kind 0 gives one page of kind 1, which becomes two of kind 0."""
        tiny = Fraction(1, 10 ** 60)
        kept = Book([1, 1], [[(1, [1, 1])], [(1, [2, 0])]])
        for step in (tiny, -tiny, Fraction(0)):
            prices = [1, pair(1 + step)]
            self.assertEqual(self.check(kept, prices, "most"), pair(1 + max(step, 0)))
            self.assertEqual(self.check(kept, prices, "fewest"), pair(1 + min(step, 0)))

    def test_copies(self):
        """[0.6] The prices are not changed, and each list is a new one."""
        prices = [1, (2, 2)]
        first, second = rate(twin(), prices), rate(twin(), prices)
        kept = copy.deepcopy(second)
        first[1].clear()
        first[2][0].clear()
        first[2].clear()
        self.assertEqual([second, rate(twin(), prices), prices], [kept, kept, [1, (2, 2)]])


class TestErrors(unittest.TestCase):
    def test_prices(self):
        """[11.6] A list of fractions, one for each kind."""
        for prices in no_lists() + [[], [1], [1, 1, 1]] + [[1, price] for price in no_fractions()]:
            self.assertEqual(raised(rate, twin(), prices), ("InvalidBound", "prices"))
            self.assertEqual(raised(rate, twin(), prices, side=None), ("InvalidBound", "prices"))

    def test_sides(self):
        """[11.1] One of the two strings, passed by name."""
        for side in no_integers() + ["Most", "least", 0, SIDES, b"most", ["most"]]:
            self.assertEqual(raised(rate, twin(), [1, 1], side=side), ("InvalidBound", "side"))
        self.assertRaises(TypeError, lambda: rate(twin(), [1, 1], "most"))

    def test_sequence(self):
        """[0.8] [11.6] The prices, then the side."""
        wrongs = [("prices", [1], ("InvalidBound", "prices")), ("side", "all", ("InvalidBound", "side"))]
        check_sequence(self, rate, {"book": twin(), "prices": [1, 1], "side": "most"}, wrongs)


if __name__ == "__main__":
    unittest.main()
