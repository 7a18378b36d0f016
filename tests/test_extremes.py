"""Section 11, all but point 11.6: extremes, bounds, and lots of uses."""

import copy
import unittest
from fractions import Fraction

from pageshares.books import Book
from pageshares.coming import come, gaps, row
from pageshares.extremes import SIDES, bound_value, cycle, extreme, is_bound, needs, use_rate
from pageshares.rates import rate
from tests.bank import all_books, standings
from tests.common import (
    DIGITS_40, DIGITS_4000, books, check_sequence, lone, mixed, no_fractions, no_integers, no_lists, raised, six, twin,
)
from tests.exact import dot, exact, exacts, moves_of, pair, possible_after
from tests.wide import DIPPING, FULL, TWELVE, WIDE, wide

LIMIT = ("LimitExceeded", 2000)
TINY = Fraction(1, 10 ** 60)
USES = [[(2, 3)], [(1, 3)]]


def price_lists(many):
    """Prices for so many kinds: above and below 0, and fractions."""
    return [[1] * many, [(-1) ** k * (k + 1) for k in range(many)], [(k - 2, k + 3) for k in range(many)],
            [0] * (many - 1) + [-1]]


def bounds(book, prices, rho, heights, side):
    """Whether they are a bound, as point [11.3] has it."""
    sign = 1 if side == "most" else -1
    totals = [price + sign * height for price, height in zip(exacts(prices), exacts(heights))]
    worths = [dot(totals, change) for _, _, _, change in moves_of(book)]
    return max(worths) <= exact(rho) if side == "most" else min(worths) >= exact(rho)


def is_lot(book, uses):
    """The conditions of point [11.5], for a list of the right form."""
    flat = [use for part in exact_parts(uses) for use in part]
    growth = [sum(use * change[j] for use, (_, _, _, change) in zip(flat, moves_of(book))) for j in range(len(book))]
    return min(flat) >= 0 and sum(flat) == 1 and min(growth) >= 0


def exact_parts(uses):
    return [exacts(part) for part in uses]


def lots(book):
    """Some lots of uses of the book."""
    found = [rate(book, prices, side=side)[2] for prices in price_lists(len(book)) for side in SIDES]
    middle = [[pair((exact(a) + 2 * exact(b)) / 3) for a, b in zip(*parts)] for parts in zip(found[0], found[3])]
    return found + [middle]


class TestSides(unittest.TestCase):
    def test_the_two(self):
        """[11.1] The strings and their sequence."""
        self.assertEqual(SIDES, ("most", "fewest"))


class TestExtreme(unittest.TestCase):
    def check(self, book, counts, prices, n, worths):
        """Both sides: the value is the greatest or the least one, and the row leads to it."""
        for side, expected in (("most", max(worths)), ("fewest", min(worths))):
            worth, picks = extreme(book, counts, prices, n, side=side)
            self.assertEqual(worth, pair(expected))
            self.assertEqual([type(picks), len(picks)], [list, n])
            standing = list(counts)
            for pick in picks:
                self.assertEqual([type(pick), type(pick[0]), type(pick[1])], [tuple, int, int])
                standing = come(book, standing, *pick)
            self.assertEqual(dot(exacts(prices), standing), expected)

    def test_known_values(self):
        """[11.2] By hand."""
        expected = ((3, 1), [(0, 0), (1, 0), (0, 0), (1, 0)])
        self.assertEqual(extreme(twin(), [1, 0], [1, 1], 4), expected)
        self.assertEqual(extreme(twin(), [1, 0], [1, 1], 4, side="most"), expected)
        least = ((2, 1), [(0, 0), (1, 0), (0, 0), (0, 0)])
        self.assertEqual(extreme(n=4, prices=[1, 1], counts=[1, 0], book=twin(), side="fewest"), least)
        self.assertEqual(extreme(mixed(), [1, 0], [0, 1], 1), ((1, 1), [(0, 0)]))
        self.assertEqual(extreme(mixed(), [1, 0], [0, 1], 1, side="fewest"), ((0, 1), [(0, 1)]))

    def test_against_all_standings(self):
        """[11.2] For all books, standings and prices of any sign."""
        for book in all_books():
            for counts in standings(len(book)):
                for n in (0, 1, 2):
                    found = possible_after(book, counts, n)[n]
                    for prices in price_lists(len(book)):
                        self.check(book, counts, prices, n, [dot(exacts(prices), standing) for standing in found])

    def test_twelve_comings(self):
        """[11.2] The greatest n, also from the greatest short standing."""
        for book in (twin(), mixed(), lone(), books()[4]):
            for counts in ([1] * len(book), [1000000] * len(book), [0] * (len(book) - 1) + [1]):
                for prices in price_lists(len(book))[:2]:
                    found = possible_after(book, counts, 12)[12]
                    self.check(book, counts, prices, 12, [dot(exacts(prices), standing) for standing in found])

    def test_no_comings(self):
        """[11.2] n = 0: the value of the standing and no picks."""
        for side in SIDES:
            self.assertEqual(extreme(twin(), [4, 5], [(1, 2), -3], 0, side=side), ((-13, 1), []))

    def test_long_prices(self):
        """[0.4] [11.2] Prices of 4,000 digits."""
        prices = [(DIGITS_4000, 7), (-1, DIGITS_4000)]
        found = possible_after(twin(), [3, 1], 6)[6]
        self.check(twin(), [3, 1], prices, 6, [dot(exacts(prices), standing) for standing in found])

    def test_2000_standings_and_more(self):
        """[11.2] 2,000 standings are not too many, 2,001 are, at n or at a k before it."""
        for entry in WIDE:
            book, counts, _ = wide(entry)
            for n in (11, 12):
                layers = possible_after(book, counts, n)
                for side in SIDES:
                    found = raised(extreme, book, counts, [1] * len(book), n, side=side)
                    self.assertEqual(found == LIMIT, max(map(len, layers)) > 2000)

    def test_known_limits(self):
        """[11.2] What the list of these books is there for."""
        for entry, n, error in ((FULL, 11, False), (FULL, 12, True), (DIPPING, 12, True), (TWELVE, 12, False)):
            book, counts, sizes = wide(entry)
            self.assertEqual(raised(extreme, book, counts, [1] * len(book), n) == LIMIT, error)
            self.assertEqual(error, max(sizes[k] for k in sizes if k <= n) > 2000)
        book, counts, _ = wide(TWELVE)
        prices = [(-1) ** k * (k + 2) for k in range(6)]
        found = possible_after(book, counts, 12)[12]
        self.assertEqual(len(found), 2000)
        self.check(book, counts, prices, 12, [dot(exacts(prices), standing) for standing in found])

    def test_new_lists(self):
        """[0.6] Nothing that is passed is changed, and the row is a new list."""
        counts, prices = [1, 1], [(2, 4), 3]
        first = extreme(mixed(), counts, prices, 2)
        kept = copy.deepcopy(first)
        first[1].clear()
        self.assertEqual(extreme(mixed(), counts, prices, 2), kept)
        self.assertEqual([counts, prices], [[1, 1], [(2, 4), 3]])


class TestIsBound(unittest.TestCase):
    def test_known_values(self):
        """[11.3] By hand."""
        self.assertIs(is_bound(twin(), [1, 1], (1, 2), [0, (1, 2)]), True)
        self.assertIs(is_bound(twin(), [1, 1], pair(Fraction(1, 2) - TINY), [0, (1, 2)]), False)
        self.assertIs(is_bound(heights=[0, 0], rho=1, prices=[1, 1], book=twin()), True)
        self.assertIs(is_bound(twin(), [1, 1], 0, [0, 0], side="fewest"), True)
        self.assertIs(is_bound(twin(), [1, 1], pair(TINY), [0, 0], side="fewest"), False)
        self.assertIs(is_bound(twin(), [1, 1], 0, [0, 0], side="most"), False)
        self.assertIs(is_bound(lone(), [5], 5, [0]), True)
        self.assertIs(is_bound(lone(), [5], 5, [(1, 9)]), False)
        self.assertIs(is_bound(lone(), [5], 5, [(1, 9)], side="fewest"), False)
        self.assertIs(is_bound(lone(), [5], (44, 9), [(1, 9)], side="fewest"), True)

    def test_against_the_condition(self):
        """[11.3] Met exactly and missed by little, at both sides, for all books."""
        for book in all_books():
            many = len(book)
            for prices in price_lists(many)[:3]:
                for heights in ([0] * many, [(k, 3) for k in range(many)], [DIGITS_40] * many):
                    for side, best, sign in (("most", max, 1), ("fewest", min, -1)):
                        totals = [a + sign * b for a, b in zip(exacts(prices), exacts(heights))]
                        edge = best(dot(totals, change) for _, _, _, change in moves_of(book))
                        for step in (Fraction(0), TINY, -TINY, Fraction(5), Fraction(-5)):
                            expected = bounds(book, prices, pair(edge + step), heights, side)
                            self.assertEqual(expected, sign * step >= 0)
                            self.assertIs(is_bound(book, prices, pair(edge + step), heights, side=side), expected)

    def test_any_values(self):
        """[0.9] [11.3] Any values as rho and heights."""
        for side in SIDES:
            for value in no_fractions():
                self.assertIs(is_bound(twin(), [1, 1], value, [0, 0], side=side), False)
                self.assertIs(is_bound(lone(), [1], 1 if side == "most" else -1, [value], side=side), False)
            for value in no_lists() + no_integers() + [[], [0], [0, 0, 0], [0, -1], [(-1, DIGITS_4000), 0]]:
                if value not in ([1, 2], [0, 0]):
                    self.assertIs(is_bound(twin(), [1, 1], 9 if side == "most" else -9, value, side=side), False)
                    self.assertIs(is_bound(twin(), [1, 1], None, value, side=side), False)

    def test_long_integers(self):
        """[0.4] [11.3] Integers of 4,000 digits."""
        for side, rho in (("most", 1), ("fewest", -1)):
            prices, heights = [(DIGITS_4000, 3), 0], [0, (7, DIGITS_4000)]
            edge = DIGITS_4000 * DIGITS_40
            self.assertIs(is_bound(twin(), prices, rho * edge, heights, side=side), True)
            self.assertIs(is_bound(twin(), prices, (rho, edge), heights, side=side), False)


class TestBoundValue(unittest.TestCase):
    def test_known_values(self):
        """[11.4] The value and the heights of the standing, and rho for each coming."""
        self.assertEqual(bound_value(twin(), [1, 0], [1, 1], (1, 2), [0, (1, 2)], 4), (3, 1))
        self.assertEqual(bound_value(twin(), [1, 2], [1, 1], (1, 2), [0, (1, 2)], 0), (4, 1))
        least = bound_value(twin(), [0, 3], [1, 1], 0, [0, 0], 7, side="fewest")
        self.assertEqual(least, (3, 1))
        found = bound_value(n=9, heights=[(1, 9)], rho=(44, 9), prices=[5], counts=[2], book=lone(), side="fewest")
        self.assertEqual(found, pair(10 - Fraction(2, 9) + 44))

    def test_against_its_definition(self):
        """[11.4] For bounds of both sides, and long standings and n."""
        for book in all_books():
            many = len(book)
            for prices in price_lists(many)[:3]:
                for side, sign in (("most", 1), ("fewest", -1)):
                    rho, heights, _ = rate(book, prices, side=side)
                    for counts in (standings(many)[-1], [DIGITS_4000 + k for k in range(many)]):
                        for n in (0, 3, DIGITS_4000):
                            expected = dot(exacts(prices), counts) + sign * dot(exacts(heights), counts)
                            found = bound_value(book, counts, prices, rho, heights, n, side=side)
                            self.assertEqual(found, pair(expected + exact(rho) * n))

    def test_it_is_a_bound(self):
        """[11.4] Whatever comes, no value passes it."""
        for book in all_books():
            for counts in standings(len(book))[-3:]:
                for prices in price_lists(len(book))[:3]:
                    for n in (1, 2):
                        worths = [dot(exacts(prices), standing) for standing in possible_after(book, counts, n)[n]]
                        rho, heights, _ = rate(book, prices)
                        found = bound_value(book, counts, prices, rho, heights, n)
                        self.assertGreaterEqual(exact(found), max(worths))
                        rho, heights, _ = rate(book, prices, side="fewest")
                        found = bound_value(book, counts, prices, rho, heights, n, side="fewest")
                        self.assertLessEqual(exact(found), min(worths))

    def test_no_bound(self):
        """[11.4] InvalidCall if they are not a bound of that side, as the last of all errors."""
        for side, rho in (("most", (49, 100)), ("fewest", (51, 100))):
            call = ("InvalidCall", "bound")
            self.assertEqual(raised(bound_value, twin(), [1, 0], [1, 1], rho, [0, 1], 4, side=side), call)
        self.assertEqual(raised(bound_value, twin(), [1, 0], [1, 1], 1, [0, 0], 4)[0], "returned")
        self.assertEqual(raised(bound_value, twin(), [1, 0], [1, 1], 1, [0, 0], 4, side="fewest")[0], "InvalidCall")
        self.assertEqual(raised(bound_value, twin(), [1, 0], [1, 1], 0, [0, 0], 4)[0], "InvalidCall")
        self.assertEqual(raised(bound_value, twin(), [1, 0], [1, 1], 0, [0, 0], 4, side="fewest")[0], "returned")


class TestUseRate(unittest.TestCase):
    def test_known_values(self):
        """[11.5] By hand."""
        self.assertEqual(use_rate(twin(), [1, 1], USES), (1, 3))
        self.assertIs(use_rate(twin(), [1, 1], [[1], [0]]), None)
        self.assertEqual(use_rate(uses=[[(1, 2)], [(2, 4)]], prices=[1, 1], book=twin()), (1, 2))
        self.assertEqual(use_rate(lone(), [(-7, 2)], [[1]]), (-7, 2))
        self.assertEqual(use_rate(mixed(), [1, 1], [[0, 1], [0]]), (1, 1))
        self.assertEqual(use_rate(mixed(), [1, 1], [[0, 0], [1]]), (1, 1))
        self.assertIs(use_rate(mixed(), [1, 1], [[1, 0], [0]]), None)

    def test_against_the_conditions(self):
        """[11.5] Lots of uses and what is a little beside them, for all books."""
        counted = {True: 0, False: 0}
        for book in all_books():
            for uses in lots(book):
                for kind, part in enumerate(uses):
                    for number in range(len(part)):
                        for step in (Fraction(0), TINY, -TINY, Fraction(1, 3)):
                            other = exact_parts(uses)
                            other[kind][number] += step
                            other[0][0] -= step
                            value = [[pair(use) for use in line] for line in other]
                            expected = is_lot(book, value)
                            counted[expected] += 1
                            for prices in price_lists(len(book))[1:2]:
                                gained = sum(use * dot(exacts(prices), change) for use, (_, _, _, change)
                                             in zip([use for line in other for use in line], moves_of(book)))
                                found = use_rate(book, prices, value)
                                self.assertEqual(found, pair(gained) if expected else None)
        self.assertGreater(min(counted.values()), 500)

    def test_each_condition(self):
        """[11.5] Below 0, another sum than 1, or a kind that falls."""
        for uses in ([[(4, 3)], [(-1, 3)]], [[(2, 3)], [pair(Fraction(1, 3) - TINY)]], [[(2, 3)], [(2, 3)]],
                     [[pair(Fraction(2, 3) + TINY)], [pair(Fraction(1, 3) - TINY)]], [[0], [0]],
                     [[pair(Fraction(1, 2) - TINY)], [pair(Fraction(1, 2) + TINY)]]):
            self.assertIs(use_rate(twin(), [1, 1], uses), None)

    def test_any_values(self):
        """[0.9] [11.5] Any value as uses."""
        wrong = no_lists() + no_integers() + [[[1]], [[(2, 3)], [(1, 3)], []], [[(2, 3), 0], [(1, 3)]], [[], [1]]]
        wrong += [[value, [(1, 3)]] for value in no_lists()] + [[[(2, 3)], value] for value in no_integers()]
        wrong += [[[value], [(1, 3)]] for value in no_fractions()] + [[[(2, 3)], [value]] for value in no_fractions()]
        for uses in wrong:
            self.assertIs(use_rate(twin(), [1, 1], uses), None)
            self.assertEqual(raised(needs, twin(), uses), ("InvalidBound", "uses"))
            self.assertEqual(raised(cycle, twin(), uses), ("InvalidBound", "uses"))

    def test_long_integers(self):
        """[0.4] [11.5] Uses and prices of 4,000 digits."""
        one = Fraction(DIGITS_4000, 2 * DIGITS_4000 - 1)
        uses = [[pair(one)], [pair(1 - one)]]
        gained = (1 - one) * Fraction(1, DIGITS_4000)
        self.assertEqual(use_rate(twin(), [(1, DIGITS_4000)] * 2, uses), pair(gained))
        self.assertEqual(needs(twin(), uses), (2 * DIGITS_4000 - 1, [DIGITS_4000, DIGITS_4000 - 1]))
        self.assertEqual(raised(cycle, twin(), uses), LIMIT)


class TestNeedsAndCycle(unittest.TestCase):
    def test_known_values(self):
        """[11.7] By hand."""
        self.assertEqual(needs(twin(), USES), (3, [2, 1]))
        self.assertEqual(cycle(twin(), USES), [(0, 0), (0, 0), (1, 0)])
        self.assertEqual(needs(uses=[[(2, 4)], [(3, 6)]], book=twin()), (2, [1, 1]))
        self.assertEqual(cycle(uses=[[(2, 4)], [(3, 6)]], book=twin()), [(0, 0), (1, 0)])
        self.assertEqual([needs(lone(), [[1]]), cycle(lone(), [[(3, 3)]])], [(1, [1]), [(0, 0)]])
        uses = [[(1, 4), (1, 2)], [(1, 4)]]
        self.assertEqual([needs(mixed(), uses), cycle(mixed(), uses)],
                         [(4, [3, 1]), [(0, 0), (0, 1), (0, 1), (1, 0)]])

    def test_against_their_definition(self):
        """[11.7] The least length, the pages of each kind, and the picks, ascending."""
        for book in all_books():
            for uses in lots(book):
                length, pages = needs(book, uses)
                parts = exact_parts(uses)
                sizes = [k for k in range(1, length + 1) if all((k * use).denominator == 1 for part in parts
                                                                for use in part)]
                self.assertEqual([type(length), sizes[:1]], [int, [length]])
                self.assertEqual(pages, [length * sum(part) for part in parts])
                self.assertTrue(all(type(number) is int for number in pages))
                picks = cycle(book, uses)
                self.assertEqual([len(picks), picks], [length, sorted(picks)])
                for kind, part in enumerate(parts):
                    for number, use in enumerate(part):
                        self.assertEqual(picks.count((kind, number)), length * use)

    def test_2000_and_2001(self):
        """[11.7] cycle returns up to 2,000 picks; needs has no limit."""
        full, more = [[(1001, 2000)], [(999, 2000)]], [[(1001, 2001)], [(1000, 2001)]]
        self.assertEqual([needs(twin(), full), needs(twin(), more)], [(2000, [1001, 999]), (2001, [1001, 1000])])
        self.assertEqual(cycle(twin(), full), [(0, 0)] * 1001 + [(1, 0)] * 999)
        self.assertEqual(raised(cycle, twin(), more), LIMIT)
        # No lot of uses: their sum is less than 1.
        self.assertEqual(raised(cycle, twin(), [[(1001, 2001)], [(999, 2001)]]), ("InvalidBound", "uses"))

    def test_the_comings_can_come(self):
        """[11.8] In any sequence, from the pages that are needed; each kind grows and the value gains its rate."""
        for book in all_books():
            prices = price_lists(len(book))[1]
            for uses in lots(book):
                length, pages = needs(book, uses)
                picks = cycle(book, uses)
                for extra in ([0] * len(book), [3] * len(book)):
                    counts = [a + b for a, b in zip(pages, extra)]
                    for sequence in (picks, picks[::-1], picks[1::2] + picks[::2]):
                        if length <= 1000:
                            after = list(row(book, counts, sequence))[-1]
                            self.assertTrue(all(new >= old for new, old in zip(after, counts)))
                            gained = dot(exacts(prices), after) - dot(exacts(prices), counts)
                            self.assertEqual(gained, length * exact(use_rate(book, prices, uses)))

    def test_again_and_again(self):
        """[11.8] For the uses of the rate the value gains exactly rho for each coming."""
        for book in all_books():
            for prices in price_lists(len(book))[:2]:
                for side in SIDES:
                    rho, _, uses = rate(book, prices, side=side)
                    length, pages = needs(book, uses)
                    standing, rounds = list(pages), 3
                    if length * rounds <= 1000:
                        standing = list(row(book, pages, cycle(book, uses) * rounds))[-1]
                        gained = dot(exacts(prices), standing) - dot(exacts(prices), pages)
                        self.assertEqual(gained, length * rounds * exact(rho))
                        self.assertEqual(gaps(book, standing), gaps(book, pages) + length * rounds)

    def test_new_lists(self):
        """[0.6] Each returned list is a new one, and the uses are not changed."""
        uses = [[(2, 4)], [(3, 6)]]
        needs(twin(), uses)[1].clear()
        cycle(twin(), uses).clear()
        use_rate(twin(), [1, 1], uses)
        self.assertEqual([uses, needs(twin(), uses), cycle(twin(), uses)],
                         [[[(2, 4)], [(3, 6)]], (2, [1, 1]), [(0, 0), (1, 0)]])


class TestErrors(unittest.TestCase):
    def test_standings(self):
        """[4.1] [11.2] [11.4] Short standings for extreme, any standing for bound_value."""
        cases = [(counts, -1) for counts in no_lists() + [[], [1], [1, 1, 1], [0, 0]]]
        cases += [([entry, 1], 0) for entry in [-1, -DIGITS_4000] + no_integers()]
        cases += [([0, entry], 1) for entry in [-1, -DIGITS_4000] + no_integers()]
        for counts, at in cases:
            self.assertEqual(raised(extreme, twin(), counts, [1, 1], 0), ("InvalidStanding", at))
            self.assertEqual(raised(bound_value, twin(), counts, [1, 1], 1, [0, 0], 0), ("InvalidStanding", at))
        for entry in (1000001, DIGITS_4000):
            self.assertEqual(raised(extreme, twin(), [1, entry], [1, 1], 0), ("InvalidStanding", 1))
            found = raised(bound_value, twin(), [1, entry], [1, 1], 1, [0, 0], 0)
            self.assertEqual(found, ("returned", (1 + entry, 1)))

    def test_prices(self):
        """[5.4] Every function that takes prices."""
        for prices in no_lists() + [[], [1], [1, 1, 1]] + [[1, price] for price in no_fractions()]:
            error = ("InvalidBound", "prices")
            self.assertEqual(raised(extreme, twin(), [1, 0], prices, 1), error)
            self.assertEqual(raised(is_bound, twin(), prices, 1, [0, 0]), error)
            self.assertEqual(raised(bound_value, twin(), [1, 0], prices, 1, [0, 0], 1), error)
            self.assertEqual(raised(use_rate, twin(), prices, USES), error)

    def test_n(self):
        """[11.2] [11.4] From 0 to 12, or any integer of at least 0."""
        for n in [-1, 13, DIGITS_4000, -DIGITS_4000] + no_integers():
            self.assertEqual(raised(extreme, twin(), [1, 0], [1, 1], n), ("InvalidBound", "n"))
        for n in [-1, -DIGITS_4000] + no_integers():
            self.assertEqual(raised(bound_value, twin(), [1, 0], [1, 1], 1, [0, 0], n), ("InvalidBound", "n"))

    def test_rho_and_heights(self):
        """[11.4] A fraction, and a list of fractions of at least 0."""
        for rho in no_fractions():
            error = ("InvalidFraction", "rho")
            self.assertEqual(raised(bound_value, twin(), [1, 0], [1, 1], rho, [0, 0], 1), error)
        wrong = no_lists() + [[], [0], [0, 0, 0], [-1, 0], [0, (-1, DIGITS_4000)]]
        for heights in wrong + [[value, 0] for value in no_fractions()]:
            error = ("InvalidBound", "heights")
            self.assertEqual(raised(bound_value, twin(), [1, 0], [1, 1], 1, heights, 1), error)

    def test_sides(self):
        """[11.1] One of the two strings."""
        for side in no_integers() + ["Most", "most ", "least", 0, SIDES, b"most", ["most"], DIGITS_4000]:
            error = ("InvalidBound", "side")
            self.assertEqual(raised(extreme, twin(), [1, 0], [1, 1], 4, side=side), error)
            self.assertEqual(raised(is_bound, twin(), [1, 1], 1, [0, 0], side=side), error)
            self.assertEqual(raised(is_bound, twin(), [1, 1], None, None, side=side), error)
            self.assertEqual(raised(bound_value, twin(), [1, 0], [1, 1], 1, [0, 0], 4, side=side), error)

    def test_side_is_passed_by_name(self):
        """[11.1] It is keyword-only."""
        for call in (lambda: extreme(twin(), [1, 0], [1, 1], 4, "most"),
                     lambda: is_bound(twin(), [1, 1], 1, [0, 0], "most"),
                     lambda: bound_value(twin(), [1, 0], [1, 1], 1, [0, 0], 4, "most")):
            self.assertRaises(TypeError, call)

    def test_sequence(self):
        """[0.8] [11.1] [11.2] [11.3] [11.4] The side after all other arguments, then what depends on them."""
        book, counts, _ = wide(DIPPING)
        prices = ("prices", [1], ("InvalidBound", "prices"))
        side = ("side", "none", ("InvalidBound", "side"))
        standing = ("counts", [0] * 5, ("InvalidStanding", -1))
        good = {"book": book, "counts": [1] * 5, "prices": [1] * 5, "n": 2}
        n = ("n", 13, ("InvalidBound", "n"))
        check_sequence(self, extreme, good, [standing, prices, n, side])
        check_sequence(self, extreme, dict(good, counts=counts, n=12), [standing, prices, n, side, ("n", 12, LIMIT)])
        good = {"book": twin(), "prices": [1, 1], "rho": 1, "heights": [0, 0]}
        check_sequence(self, is_bound, good, [prices, side, ("rho", None, ("returned", False))])
        wrongs = [
            ("counts", [0, 0], ("InvalidStanding", -1)), prices, ("rho", None, ("InvalidFraction", "rho")),
            ("heights", [0, -1], ("InvalidBound", "heights")), ("n", -1, ("InvalidBound", "n")), side,
            ("rho", 0, ("InvalidCall", "bound")),
        ]
        check_sequence(self, bound_value, dict(good, counts=[1, 0], n=2), wrongs)
        check_sequence(self, use_rate, {"book": twin(), "prices": [1, 1], "uses": USES},
                       [prices, ("uses", None, ("returned", None))])

    def test_what_is_passed_is_not_changed(self):
        """[0.6] No list that is passed is changed."""
        prices, heights, counts = [1, (2, 2)], [0, (2, 4)], [1, 0]
        is_bound(twin(), prices, (2, 4), heights)
        bound_value(twin(), counts, prices, (2, 4), heights, 3)
        self.assertEqual([prices, heights, counts], [[1, (2, 2)], [0, (2, 4)], [1, 0]])

    def test_kinds_of_values(self):
        """[0.3] Fractions are returned in lowest terms."""
        self.assertEqual(bound_value(twin(), [2, 0], [(1, 2), 1], 6, [0, 0], 1), (7, 1))
        self.assertEqual(use_rate(six(), [0] * 6, rate(six(), [0] * 6)[2]), (0, 1))
        one = Book([1, 1], [[(1, [1, 1])], [(1, [1, 1])]])
        self.assertEqual(extreme(one, [1, 1], [(2, 4), (3, 6)], 1), ((3, 2), extreme(one, [1, 1], [1, 1], 1)[1]))


if __name__ == "__main__":
    unittest.main()
