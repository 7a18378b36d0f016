"""Section 7: whole chances, and histories."""

import copy
import unittest
from fractions import Fraction

from pageshares.books import Book
from pageshares.coming import gaps
from pageshares.histories import between, chance_at_least, chance_of, histories, likeliest, whole
from pageshares.means import mean, value
from pageshares.squares import spread, squares
from tests.bank import all_books, standings
from tests.common import (
    DIGITS_40, DIGITS_4000, books, check_sequence, lone, mixed, no_fractions, no_integers, no_lists, raised, six, twin,
)
from tests.exact import dot, exact, exacts, gaps_of, pair, possible_after, spread_after, standings_after
from tests.wide import DIPPING, FULL, SPREADING, SURE_DIPPING, SURE_FULL, WIDE, wide

LIMIT = ("LimitExceeded", 2000)


def expected_whole(book, counts, n):
    """What `whole` has to return, by following every standing."""
    return [(list(standing), pair(chance)) for standing, chance in sorted(standings_after(book, counts, n).items())]


def expected_between(book, counts, m, n, goal):
    """What `between` has to return: the chance of each standing times that of the goal from there, by their sum."""
    found = []
    for standing, chance in sorted(standings_after(book, counts, m).items()):
        to_goal = standings_after(book, list(standing), n - m).get(tuple(goal), Fraction(0))
        if to_goal:
            found.append((list(standing), chance * to_goal))
    total = sum(chance for _, chance in found)
    return [(standing, pair(chance / total)) for standing, chance in found]


def counted(book, counts, n, goal):
    """The number of histories, gap by gap."""
    if n == 0:
        return int(list(counts) == list(goal))
    total = 0
    for kind, count in enumerate(counts):
        for _ in range(count * book.weights()[kind]):
            after = list(counts)
            after[kind] -= 1
            total += counted(book, [a + b for a, b in zip(after, book[kind][0][1])], n - 1, goal)
    return total


def sure_books():
    return [book for book in all_books() if book.is_sure()]


def some(book):
    """A few standings of the book."""
    return standings(len(book))[-3:]


class TestWhole(unittest.TestCase):
    def test_known_values(self):
        """[7.1] Numbers that can be found by hand."""
        self.assertEqual(whole(twin(), [1, 0], 4), [([0, 2], (2, 5)), ([3, 0], (3, 5))])
        self.assertEqual(whole(n=1, counts=[1, 1], book=mixed()), [([0, 2], (2, 9)), ([2, 1], (7, 9))])
        self.assertEqual(whole(twin(), [1, 1], 1), [([0, 2], (2, 5)), ([3, 0], (3, 5))])

    def test_against_all_standings_that_are_possible(self):
        """[7.1] All standings with a chance above 0, ascending."""
        for book in all_books():
            for counts in standings(len(book)):
                for n in (1, 2, 3):
                    self.assertEqual(whole(book, counts, n), expected_whole(book, counts, n))

    def test_more_comings(self):
        """[7.1] Also after many comings."""
        for book, n in ((twin(), 60), (mixed(), 60), (lone(), 60), (wide(SPREADING)[0], 40)):
            counts = [1] * len(book)
            self.assertEqual(whole(book, counts, n), expected_whole(book, counts, n))

    def test_no_comings(self):
        """[7.1] Only the standing at the beginning."""
        for book in all_books():
            for counts in standings(len(book)) + [[1000000] * len(book)]:
                self.assertEqual(whole(book, counts, 0), [(counts, (1, 1))])

    def test_one_kind(self):
        """[7.1] With one kind there is one standing."""
        for n in (0, 1, 60):
            self.assertEqual(whole(lone(), [1000000], n), [([1000000 + n], (1, 1))])

    def test_the_greatest_short_standings(self):
        """[7.1] Entries up to 1,000,000, which may grow beyond it."""
        for book in all_books():
            for counts in ([1000000] * len(book), [1000000] + [0] * (len(book) - 1), [1] + [999999] * (len(book) - 1)):
                self.assertEqual(whole(book, counts, 2), expected_whole(book, counts, 2))
        self.assertEqual(whole(twin(), [1000000, 999999], 60), expected_whole(twin(), [1000000, 999999], 60))
        growing = Book([1, 12], [[(1, [2, 0])], [(1, [13, 0])]])
        self.assertEqual(whole(growing, [0, 1000000], 30), expected_whole(growing, [0, 1000000], 30))

    def test_six_kinds(self):
        """[7.1] Six kinds with lotteries of four entries."""
        self.assertEqual(whole(six(), [0, 0, 0, 0, 0, 2], 6), expected_whole(six(), [0, 0, 0, 0, 0, 2], 6))

    def test_ascending_different_and_above_0(self):
        """[7.1] Each standing once, in ascending order, with a chance in lowest terms."""
        for book in all_books():
            found = whole(book, [2] * len(book), 4)
            self.assertEqual([standing for standing, _ in found], sorted(standing for standing, _ in found))
            self.assertEqual(len({tuple(standing) for standing, _ in found}), len(found))
            for entry in found:
                self.assertEqual([type(entry), type(entry[0]), type(entry[1])], [tuple, list, tuple])
                self.assertEqual([len(entry), entry[1]], [2, pair(exact(entry[1]))])
                self.assertGreater(entry[1][0], 0)
                self.assertTrue(all(type(count) is int for count in entry[0]))

    def test_as_many_as_there_are(self):
        """[7.1] Up to 2,000 standings."""
        for entry in WIDE:
            book, counts, sizes = wide(entry)
            for n in sorted(sizes)[:2]:
                if max(map(len, possible_after(book, counts, n))) <= 2000:
                    found = whole(book, counts, n)
                    self.assertEqual([len(found), sum(exact(chance) for _, chance in found)], [sizes[n], 1])


class TestFacts(unittest.TestCase):
    def test_the_sum_is_1(self):
        """[7.7] The chances have the sum 1."""
        for book in all_books():
            for counts in some(book):
                self.assertEqual(sum(exact(chance) for _, chance in whole(book, counts, 4)), 1)

    def test_means_and_squares(self):
        """[7.7] The means and the squares are those of these chances."""
        for book in all_books():
            kinds = range(len(book))
            for counts in some(book):
                for n in (0, 1, 4):
                    found = [(standing, exact(chance)) for standing, chance in whole(book, counts, n)]
                    means = [pair(sum(chance * standing[k] for standing, chance in found)) for k in kinds]
                    self.assertEqual(mean(book, counts, n), means)
                    expected = [[pair(sum(chance * x[i] * x[j] for x, chance in found)) for j in kinds] for i in kinds]
                    self.assertEqual(squares(book, counts, n), expected)

    def test_distance_from_the_mean(self):
        """[7.7] At least a distance off the mean: at most the spread by the square of the distance."""
        for book in all_books():
            prices = [(-1) ** k * (k + 1) for k in range(len(book))]
            for counts in some(book):
                middle = exact(value(book, prices, mean(book, counts, 4)))
                bound = exact(spread(book, counts, prices, 4))
                self.assertEqual(bound, spread_after(book, counts, prices, 4))
                for distance in (Fraction(1, 3), 1, 2, 5):
                    high = exact(chance_at_least(book, counts, 4, prices, pair(middle + distance)))
                    down = [-price for price in prices]
                    low = exact(chance_at_least(book, counts, 4, down, pair(distance - middle)))
                    self.assertLessEqual(high + low, bound / distance ** 2)

    def test_histories_of_sure_books(self):
        """[7.7] In a sure book they are the chance times the number of all histories."""
        for book in sure_books():
            for counts in some(book):
                every = 1
                for n in range(6):
                    for standing, chance in whole(book, counts, n):
                        self.assertEqual(histories(book, counts, n, standing), exact(chance) * every)
                    every *= gaps_of(book, counts) + n


class TestLikeliest(unittest.TestCase):
    def test_known_values(self):
        """[7.2] The tuple with the greatest chance."""
        self.assertEqual(likeliest(twin(), [1, 0], 4), ([3, 0], (3, 5)))
        self.assertEqual(likeliest(n=0, counts=[4, 5], book=twin()), ([4, 5], (1, 1)))
        self.assertEqual(likeliest(lone(), [1000000], 60), ([1000060], (1, 1)))

    def test_the_least_of_several(self):
        """[7.2] If several have the greatest chance, the one with the least standing."""
        apart = Book([1, 1], [[(1, [2, 0])], [(1, [0, 2])]])
        self.assertEqual(likeliest(apart, [1, 1], 3), ([1, 4], (1, 4)))
        self.assertEqual(likeliest(apart, [1, 1], 60), ([1, 61], (1, 61)))
        self.assertEqual(likeliest(apart, [2, 2], 1), ([2, 3], (1, 2)))

    def test_against_whole(self):
        """[7.2] The first one of `whole` with the greatest chance."""
        ties = 0
        for book in all_books():
            for counts in standings(len(book)):
                for n in (1, 4):
                    found = whole(book, counts, n)
                    best = max(exact(chance) for _, chance in found)
                    firsts = [entry for entry in found if exact(entry[1]) == best]
                    ties += len(firsts) > 1
                    self.assertEqual(likeliest(book, counts, n), firsts[0])
        self.assertGreater(ties, 5)


class TestChanceOf(unittest.TestCase):
    def test_known_values(self):
        """[7.3] The chance of a goal."""
        self.assertEqual(chance_of(twin(), [1, 0], 4, [0, 2]), (2, 5))
        self.assertEqual(chance_of(goal=[2, 1], n=1, counts=[1, 1], book=mixed()), (7, 9))
        self.assertEqual(chance_of(twin(), [1, 0], 4, [1, 1]), (0, 1))

    def test_each_standing(self):
        """[7.3] Each standing of `whole` has its chance there."""
        for book in all_books():
            for counts in some(book):
                for standing, chance in whole(book, counts, 3):
                    self.assertEqual(chance_of(book, counts, 3, standing), chance)

    def test_goals_that_cannot_be(self):
        """[7.3] 0 for all other standings, also for very great ones."""
        for book in all_books():
            counts = [2] * len(book)
            possible = possible_after(book, counts, 2)[2]
            for goal in standings(len(book)) + [[DIGITS_4000] * len(book), [1] * (len(book) - 1) + [DIGITS_40]]:
                if tuple(goal) not in possible:
                    self.assertEqual(chance_of(book, counts, 2, goal), (0, 1))

    def test_great_goals_are_not_taken_for_others(self):
        """[7.3] A goal whose entries are great is no other standing, however its entries are put together."""
        for shift in range(8, 40):
            # In a number with so many bits for each count, these would stand for the standing [1, 1].
            for goal in ([0, 2 ** shift + 1], [1, 2 ** shift], [0, 2 ** shift]):
                self.assertEqual(chance_of(twin(), [1, 1], 0, goal), (0, 1))
                self.assertEqual(between(twin(), [1, 1], 0, 0, goal), [])
                self.assertEqual(histories(twin(), [1, 1], 0, goal), 0)

    def test_the_greatest_short_standing(self):
        """[7.3] The goal need not be short."""
        self.assertEqual(chance_of(lone(), [1000000], 60, [1000060]), (1, 1))
        self.assertEqual(chance_of(lone(), [1000000], 60, [1000061]), (0, 1))


class TestChanceAtLeast(unittest.TestCase):
    def test_known_values(self):
        """[7.4] The chance that the value is at least the bound."""
        self.assertEqual(chance_at_least(twin(), [1, 0], 4, [1, 1], 3), (3, 5))
        self.assertEqual(chance_at_least(twin(), [1, 0], 4, [1, 1], 2), (1, 1))
        self.assertEqual(chance_at_least(twin(), [1, 0], 4, [1, 1], (7, 2)), (0, 1))
        self.assertEqual(chance_at_least(bound=(-2, 1), prices=[-1, -1], n=4, counts=[1, 0], book=twin()), (2, 5))

    def test_against_all_standings(self):
        """[7.4] At each value, just below and just above it; prices of any sign."""
        step = Fraction(1, 10 ** 30)
        for book in all_books():
            lists = ([1] * len(book), [(-1) ** k * (k + 2) for k in range(len(book))],
                     [(k - 2, k + 3) for k in range(len(book))], [0] * len(book))
            for counts in some(book):
                found = [(standing, chance) for standing, chance in standings_after(book, counts, 2).items()]
                for prices in lists:
                    worths = [(dot(exacts(prices), standing), chance) for standing, chance in found]
                    for bound in sorted({worth for worth, _ in worths})[:6]:
                        for moved in (bound - step, bound, bound + step):
                            expected = sum(chance for worth, chance in worths if worth >= moved)
                            self.assertEqual(chance_at_least(book, counts, 2, prices, pair(moved)), pair(expected))

    def test_long_prices_and_bounds(self):
        """[0.4] [7.4] Integers of 4,000 digits."""
        prices = [(DIGITS_4000, 3), (-1, DIGITS_4000)]
        worth = exact(prices[0]) * 0 + exact(prices[1]) * 2
        self.assertEqual(chance_at_least(twin(), [1, 0], 4, prices, pair(worth)), (1, 1))
        self.assertEqual(chance_at_least(twin(), [1, 0], 4, prices, (0, 5)), (3, 5))
        self.assertEqual(chance_at_least(twin(), [1, 0], 4, prices, DIGITS_4000), (3, 5))
        self.assertEqual(chance_at_least(twin(), [1, 0], 4, prices, (DIGITS_4000, 1)), (3, 5))
        self.assertEqual(chance_at_least(twin(), [1, 0], 4, prices, DIGITS_4000 + 1), (0, 1))


class TestBetween(unittest.TestCase):
    def test_known_values(self):
        """[7.5] The standings on the way to the goal."""
        self.assertEqual(between(twin(), [1, 1], 1, 2, [2, 1]), [([0, 2], (2, 5)), ([3, 0], (3, 5))])
        self.assertEqual(between(goal=[2, 1], n=2, m=0, counts=[1, 1], book=twin()), [([1, 1], (1, 1))])
        self.assertEqual(between(twin(), [1, 1], 2, 2, [2, 1]), [([2, 1], (1, 1))])
        self.assertEqual(between(lone(), [1000000], 30, 60, [1000060]), [([1000030], (1, 1))])

    def test_against_all_standings(self):
        """[7.5] The chance of the standing, times that of the goal from there, by the chance of the goal."""
        for book in all_books():
            for counts in some(book):
                goals = [standing for standing, _ in whole(book, counts, 3)]
                for goal in goals[::max(1, len(goals) // 4)]:
                    for m in (0, 1, 2, 3):
                        self.assertEqual(between(book, counts, m, 3, goal), expected_between(book, counts, m, 3, goal))

    def test_the_ends(self):
        """[7.5] m = 0 is the beginning, m = n is the goal."""
        for book in all_books():
            counts = [2] * len(book)
            goal = whole(book, counts, 4)[0][0]
            self.assertEqual(between(book, counts, 0, 4, goal), [(counts, (1, 1))])
            self.assertEqual(between(book, counts, 4, 4, goal), [(goal, (1, 1))])
            self.assertEqual(between(book, counts, 0, 0, counts), [(counts, (1, 1))])

    def test_goals_that_cannot_be(self):
        """[7.5] The empty list if the goal has no chance."""
        self.assertEqual(between(twin(), [1, 1], 1, 2, [1, 1]), [])
        self.assertEqual(between(twin(), [1, 1], 0, 0, [3, 0]), [])
        self.assertEqual(between(twin(), [1, 1], 2, 2, [DIGITS_4000, 0]), [])
        self.assertEqual(between(twin(), [1, 1], 3, 7, [0, 4]), expected_between(twin(), [1, 1], 3, 7, [0, 4]))

    def test_many_comings(self):
        """[7.5] n = 60; the chances have the sum 1."""
        book, counts, _ = wide(SPREADING)
        for goal in ([30, 32], [1, 61], [31, 31]):
            found = between(book, counts, 30, 60, goal)
            self.assertEqual(found, expected_between(book, counts, 30, 60, goal))
            self.assertEqual(sum(exact(chance) for _, chance in found), 1)
        book, counts, _ = wide(FULL)
        goal = likeliest(book, counts, 11)[0]
        self.assertEqual(sum(exact(chance) for _, chance in between(book, counts, 6, 11, goal)), 1)


class TestHistories(unittest.TestCase):
    def test_known_values(self):
        """[7.6] Numbers that can be found by hand."""
        self.assertEqual(histories(twin(), [1, 0], 4, [0, 2]), 48)
        self.assertEqual(histories(goal=[3, 0], n=4, counts=[1, 0], book=twin()), 72)
        self.assertEqual(histories(lone(), [2], 3, [5]), 2 * 3 * 4)
        self.assertEqual(histories(twin(), [1, 0], 4, [1, 1]), 0)

    def test_no_comings(self):
        """[7.6] There is one history for n = 0."""
        for book in sure_books():
            counts = [3] * len(book)
            self.assertEqual(histories(book, counts, 0, counts), 1)
            self.assertEqual(histories(book, counts, 0, [3] * (len(book) - 1) + [4]), 0)

    def test_gap_by_gap(self):
        """[7.6] As many as there are ways to choose a gap for each coming."""
        for book in sure_books():
            if sum(book.weights()) <= 12:
                counts = [1] * len(book)
                for n in (1, 2, 3):
                    for standing, _ in whole(book, counts, n):
                        found = histories(book, counts, n, standing)
                        self.assertEqual([found, type(found)], [counted(book, counts, n, standing), int])

    def test_their_sum(self):
        """[7.6] There are t0 * (t0 + 1) * .. * (t0 + n - 1) histories."""
        for book in sure_books():
            for counts in some(book):
                every = 1
                for n in range(5):
                    found = [histories(book, counts, n, standing) for standing, _ in whole(book, counts, n)]
                    self.assertEqual(sum(found), every)
                    every *= gaps(book, counts) + n

    def test_books_that_are_not_sure(self):
        """[7.6] The book is checked before all else."""
        for book in all_books():
            if not book.is_sure():
                self.assertEqual(raised(histories, book, [1] * len(book), 0, [1] * len(book)), ("InvalidBound", "book"))
                self.assertEqual(raised(histories, book, None, None, None), ("InvalidBound", "book"))


class TestLimit(unittest.TestCase):
    def calls(self, book, counts, n):
        """What the functions return or raise at n."""
        prices = [1] * len(book)
        found = [raised(whole, book, counts, n), raised(likeliest, book, counts, n),
                 raised(chance_of, book, counts, n, counts), raised(chance_at_least, book, counts, n, prices, 1),
                 raised(between, book, counts, 0, n, counts), raised(between, book, counts, n, n, counts)]
        if book.is_sure():
            found.append(raised(histories, book, counts, n, counts))
        return found

    def test_2000_standings_and_more(self):
        """[7.1] 2,000 standings are not too many, 2,001 are, at n or at a k before it."""
        for entry in WIDE:
            book, counts, sizes = wide(entry)
            for n in sorted(sizes)[-2:]:
                too_many = max(map(len, possible_after(book, counts, n))) > 2000
                for found in self.calls(book, counts, n):
                    self.assertEqual(found == LIMIT, too_many)

    def test_known_cases(self):
        """[7.1] What the list of these books is there for."""
        book, counts, _ = wide(FULL)
        self.assertEqual(len(whole(book, counts, 11)), 2000)
        self.assertEqual(self.calls(book, counts, 12), [LIMIT] * 6)
        self.assertEqual(self.calls(book, counts, 60), [LIMIT] * 6)
        book, counts, _ = wide(DIPPING)
        self.assertEqual(self.calls(book, counts, 12), [LIMIT] * 6)
        book, counts, _ = wide(SURE_FULL)
        self.assertEqual(len(whole(book, counts, 58)), 2000)
        self.assertEqual(self.calls(book, counts, 59), [LIMIT] * 7)
        book, counts, _ = wide(SURE_DIPPING)
        self.assertEqual(self.calls(book, counts, 58), [LIMIT] * 7)

    def test_other_errors_come_first(self):
        """[0.8] LimitExceeded comes after the errors of all arguments."""
        book, counts, _ = wide(SURE_DIPPING)
        self.assertEqual(raised(chance_of, book, counts, 60, None), ("InvalidBound", "goal"))
        self.assertEqual(raised(histories, book, counts, 60, [0] * 6), ("InvalidBound", "goal"))
        self.assertEqual(raised(between, book, counts, 0, 60, [1]), ("InvalidBound", "goal"))
        self.assertEqual(raised(chance_at_least, book, counts, 60, [1] * 6, None), ("InvalidFraction", "bound"))
        self.assertEqual(raised(chance_at_least, book, counts, 60, [1] * 5, 1), ("InvalidBound", "prices"))


class TestErrors(unittest.TestCase):
    def calls(self, counts, n):
        book = twin()
        return [raised(whole, book, counts, n), raised(likeliest, book, counts, n),
                raised(chance_of, book, counts, n, [1, 0]), raised(chance_at_least, book, counts, n, [1, 1], 1),
                raised(histories, book, counts, n, [1, 0])]

    def wrong(self, counts, n, error):
        for found in self.calls(counts, n) + [raised(between, twin(), counts, 0, n, [1, 0])]:
            self.assertEqual(found, error)

    def test_standings(self):
        """[4.1] [7.1] Short standings only."""
        for counts in no_lists() + [[], [1], [1, 1, 1], [0, 0]]:
            self.wrong(counts, 4, ("InvalidStanding", -1))
        for entry in [-1, 1000001, DIGITS_40, DIGITS_4000, -DIGITS_4000] + no_integers():
            self.wrong([entry, 1], 4, ("InvalidStanding", 0))
            self.wrong([0, entry], 4, ("InvalidStanding", 1))

    def test_n(self):
        """[7.1] n is an integer from 0 to 60."""
        for n in [-1, 61, 10 ** 40, DIGITS_4000, -DIGITS_4000] + no_integers():
            self.wrong([1, 0], n, ("InvalidBound", "n"))

    def test_m_and_n(self):
        """[7.5] m is an integer from 0 to 60, n one from m to 60."""
        for m in [-1, 61, DIGITS_4000, -DIGITS_4000] + no_integers():
            self.assertEqual(raised(between, twin(), [1, 0], m, 60, [1, 0]), ("InvalidBound", "m"))
            self.assertEqual(raised(between, twin(), [1, 0], m, None, [1, 0]), ("InvalidBound", "m"))
        for m in (0, 1, 30, 60):
            for n in (-1, m - 1, 61, DIGITS_4000):
                self.assertEqual(raised(between, twin(), [1, 0], m, n, [1, 0]), ("InvalidBound", "n"))
        self.assertEqual(raised(between, twin(), [1, 0], 60, 60, [1, 0])[0], "returned")

    def test_goals(self):
        """[7.3] [7.5] [7.6] A goal is a standing of the book, which need not be short."""
        wrong = no_lists() + [[], [1], [1, 1, 1], [0, 0], [-1, 2], [2, -DIGITS_4000]]
        wrong += [[entry, 1] for entry in no_integers()] + [[0, entry] for entry in no_integers()]
        for goal in wrong:
            self.assertEqual(raised(chance_of, twin(), [1, 0], 4, goal), ("InvalidBound", "goal"))
            self.assertEqual(raised(histories, twin(), [1, 0], 4, goal), ("InvalidBound", "goal"))
            self.assertEqual(raised(between, twin(), [1, 0], 0, 4, goal), ("InvalidBound", "goal"))

    def test_prices_and_bounds(self):
        """[7.4] Prices are fractions, one for each kind, and the bound is a fraction."""
        for prices in no_lists() + [[], [1], [1, 1, 1]] + [[1, price] for price in no_fractions()]:
            self.assertEqual(raised(chance_at_least, twin(), [1, 0], 4, prices, 1), ("InvalidBound", "prices"))
        for bound in no_fractions():
            self.assertEqual(raised(chance_at_least, twin(), [1, 0], 4, [1, 1], bound), ("InvalidFraction", "bound"))

    def test_sequence(self):
        """[0.8] [7.1] [7.3] [7.4] [7.5] [7.6] The errors come in the sequence of the parameters."""
        good = {"book": twin(), "counts": [1, 0], "n": 2}
        first = [("counts", [0, -1], ("InvalidStanding", 1)), ("n", 61, ("InvalidBound", "n"))]
        goal = [("goal", [0, 0], ("InvalidBound", "goal"))]
        for call in (whole, likeliest):
            check_sequence(self, call, good, first)
        check_sequence(self, chance_of, dict(good, goal=[1, 0]), first + goal)
        check_sequence(self, histories, dict(good, goal=[1, 0]), first + goal)
        prices = [("prices", [1], ("InvalidBound", "prices")), ("bound", (1, 0), ("InvalidFraction", "bound"))]
        check_sequence(self, chance_at_least, dict(good, prices=[1, 1], bound=1), first + prices)
        times = [("m", True, ("InvalidBound", "m")), ("n", -1, ("InvalidBound", "n"))]
        check_sequence(self, between, dict(good, m=1, goal=[1, 0]), first[:1] + times + goal)


class TestCopies(unittest.TestCase):
    def test_what_is_passed_is_not_changed(self):
        """[0.6] No list that is passed is changed."""
        counts, goal, prices = [1, 1], [2, 1], [(2, 4), 3]
        for call in (lambda: whole(mixed(), counts, 3), lambda: likeliest(mixed(), counts, 3),
                     lambda: chance_of(mixed(), counts, 1, goal), lambda: between(mixed(), counts, 1, 1, goal),
                     lambda: histories(twin(), counts, 2, goal),
                     lambda: chance_at_least(mixed(), counts, 3, prices, 1)):
            call()
        self.assertEqual([counts, goal, prices], [[1, 1], [2, 1], [(2, 4), 3]])

    def test_returned_lists_are_new(self):
        """[0.6] Each returned list is a new one at each call, and each list inside it."""
        for call in (lambda: whole(mixed(), [1, 1], 2), lambda: between(mixed(), [1, 1], 1, 2, [2, 2])):
            first, second = call(), call()
            kept = copy.deepcopy(second)
            for standing, _ in first:
                standing.append(None)
            first.clear()
            self.assertEqual([second, call()], [kept, kept])
        counts = [4, 5]
        whole(twin(), counts, 0)[0][0].append(1)
        likeliest(twin(), counts, 0)[0].append(1)
        between(twin(), counts, 0, 0, counts)[0][0].append(1)
        self.assertEqual([counts, likeliest(twin(), counts, 0)[0]], [[4, 5], [4, 5]])


if __name__ == "__main__":
    unittest.main()
