"""Section 12: two books compared."""

import copy
import unittest
from fractions import Fraction
from functools import lru_cache

from pageshares.books import Book
from pageshares.coming import gaps
from pageshares.compared import difference, is_never, never_above, numerator, same_chances, same_means
from pageshares.histories import whole
from pageshares.means import mean
from pageshares.plain import far_mean, is_plain, roots
from tests.bank import all_books, other_books, plain_books
from tests.common import (
    DIGITS_40, DIGITS_4000, check_sequence, lone, mixed, no_fractions, no_integers, no_lists, raised, six, twin,
)
from tests.exact import dot, exact, exacts, pair

LIMIT = ("LimitExceeded", 5000)

# Plain books of two kinds with one gap each; their roots other than 1 are 0, 0, -1 and 1.
KEPT = Book([1, 1], [[(1, [2, 0])], [(1, [1, 1])]])
OTHER_KEPT = Book([1, 1], [[(1, [1, 1])], [(1, [0, 2])]])
EVEN = Book([1, 1], [[(1, [1, 1])], [(1, [1, 1])]])
APART = Book([1, 1], [[(1, [2, 0])], [(1, [0, 2])]])

# Two books whose least paper comes late.
HALF = [((1, 2), [0, 2, 0]), ((1, 2), [1, 0, 0])]
LATE = Book([2, 1, 1], [[(1, [0, 1, 2])], HALF, HALF])
OTHER_LATE = Book([2, 1, 1], [[((11, 12), [0, 1, 2]), ((1, 12), [0, 2, 1])], [(1, [0, 2, 0])], [(1, [0, 2, 0])]])


def late(many):
    """The arguments of a comparison of these two whose least paper is about 5,000."""
    return (LATE, [0, 200, many], OTHER_LATE, [2450, 326, many - 5026], [-1, -1, -2])


def variants(book):
    """The book, and the plain books that take another lottery for some kind: one of its outcomes, or its reverse."""
    found = [book]
    for kind in range(len(book)):
        for lottery in [[(1, outcome)] for _, outcome in book[kind]] + [reversed_chances(book[kind])]:
            other = book.with_lottery(kind, lottery)
            if other not in found and is_plain(other):
                found.append(other)
    return found


def reversed_chances(lottery):
    chances = [chance for chance, _ in lottery][::-1]
    return [(chance, outcome) for chance, (_, outcome) in zip(chances, lottery)]


@lru_cache(maxsize=None)
def pairs_of_books():
    """Tuples of two plain books with the same weights."""
    found = [(one, other) for one in (KEPT, OTHER_KEPT, EVEN, APART) for other in (KEPT, OTHER_KEPT, EVEN, APART)]
    for book in plain_books():
        kept = variants(book)[:3]
        found += [(one, other) for one in kept for other in kept if one == book or other == book]
    return found


def exchanged(book, counts):
    """Another standing with as many gaps, if there is more than one kind."""
    weights, after = book.weights(), list(counts)
    for i in range(len(book)):
        for j in range(len(book)):
            if i != j and after[i] >= weights[j]:
                after[i] -= weights[j]
                after[j] += weights[i]
                return after
    return after


@lru_cache(maxsize=None)
def cases():
    """Arguments for the functions: two books, two standings with as many gaps, and prices."""
    found = []
    for one, other in pairs_of_books():
        many = len(one)
        prices = [(-1) ** k * (k + 1) for k in range(many)]
        for counts in ([0] * (many - 1) + [1], [2] * many, [13 + k for k in range(many)]):
            found.append((one, counts, other, exchanged(one, counts), prices))
        found.append((one, [3] * many, other, [3] * many, [(k - 1, k + 2) for k in range(many)]))
    return found


def bounds(one, other, t0):
    """K and H of point [12.6]."""
    found = [root for book in (one, other) for root, _ in roots(book)]
    low = [k for k in range(1, t0) if -k in found]
    n = 0
    while not all(t0 + n > -root for root in found):
        n += 1
    return max(low, default=0), n


def slow_difference(one, x, other, y, prices, n):
    """The difference by the recursion of the means."""
    values = [dot(exacts(prices), exacts(mean(book, counts, n))) for book, counts in ((one, x), (other, y))]
    return values[0] - values[1]


class TestSameMeans(unittest.TestCase):
    def test_known_values(self):
        """[12.2] By hand."""
        other = mixed().with_lottery(1, [(1, [3, 0])])
        self.assertEqual([same_means(mixed(), other), same_means(other=other, one=mixed())], [1, 1])
        self.assertIs(same_means(mixed(), mixed()), None)
        self.assertEqual([same_means(KEPT, EVEN), same_means(KEPT, APART), same_means(EVEN, OTHER_KEPT)], [0, 1, 1])

    def test_same_means_of_unlike_books(self):
        """[12.2] [12.3] The means of a lottery may be those of another one."""
        one = Book([1, 1], [[(1, [1, 1])], [(1, [0, 2])]])
        other = Book([1, 1], [[((1, 2), [2, 0]), ((1, 2), [0, 2])], [(1, [0, 2])]])
        self.assertEqual([same_means(one, other), same_chances(one, other)], [None, 0])
        self.assertEqual([same_means(other, one), same_chances(other, one)], [None, 0])

    def test_facts(self):
        """[12.2] None exactly if the matrices are equal; otherwise the least kind whose MEAN(1) is different."""
        for one, other in pairs_of_books() + [(book, book) for book in all_books()]:
            found = same_means(one, other)
            pages = [[int(j == k) for j in range(len(one))] for k in range(len(one))]
            unlike = [k for k, page in enumerate(pages) if mean(one, page, 1) != mean(other, page, 1)]
            self.assertEqual(found, unlike[0] if unlike else None)
            self.assertEqual(found is None, one.matrix() == other.matrix())

    def test_other_weights(self):
        """[12.1] The two books have the same weights."""
        for one, other in ((twin(), mixed()), (twin(), lone()), (lone(), twin()), (six(), twin()), (EVEN, mixed())):
            self.assertEqual(raised(same_means, one, other), ("InvalidBound", "other"))
            self.assertEqual(raised(same_chances, one, other), ("InvalidBound", "other"))


class TestSameChances(unittest.TestCase):
    def test_known_values(self):
        """[12.3] By hand."""
        other = mixed().with_lottery(1, [(1, [3, 0])])
        self.assertEqual([same_chances(mixed(), other), same_chances(other=other, one=mixed())], [1, 1])
        self.assertIs(same_chances(mixed(), mixed()), None)
        self.assertEqual(same_chances(mixed(), mixed().with_lottery(0, [(1, [0, 1])])), 0)

    def test_facts(self):
        """[12.3] None exactly if the books are equal; otherwise the least kind with other chances after one coming."""
        for one, other in pairs_of_books() + [(book, Book(book.weights(), [book[k] for k in range(len(book))]))
                                              for book in all_books()]:
            found = same_chances(one, other)
            pages = [[int(j == k) for j in range(len(one))] for k in range(len(one))]
            unlike = [k for k, page in enumerate(pages) if whole(one, page, 1) != whole(other, page, 1)]
            self.assertEqual(found, unlike[0] if unlike else None)
            self.assertEqual(found is None, one == other)


class TestDifference(unittest.TestCase):
    def test_known_values(self):
        """[12.5] By hand."""
        self.assertEqual(difference(twin(), [0, 2], twin(), [3, 0], [1, 1], 0), (-1, 1))
        self.assertEqual(difference(n=7, prices=[1, 0], y=[6, 1], other=OTHER_KEPT, x=[1, 6], one=KEPT), (2, 1))
        self.assertEqual(difference(lone(), [4], lone(), [4], [(1, 3)], 10 ** 40), (0, 1))

    def test_against_the_recursion(self):
        """[12.5] The value of one mean minus that of the other, also while t0 + n is less than some root."""
        for one, x, other, y, prices in cases()[::3]:
            for n in (0, 1, 2, 3, 9, 23, 60):
                self.assertEqual(difference(one, x, other, y, prices, n),
                                 pair(slow_difference(one, x, other, y, prices, n)))

    def test_far(self):
        """[12.5] Up to 10 ** 40 comings, and with long standings and prices."""
        for one, x, other, y, prices in cases()[::3]:
            for n in (10 ** 6, 10 ** 40):
                values = [dot(exacts(prices), exacts(far_mean(book, counts, n)))
                          for book, counts in ((one, x), (other, y))]
                self.assertEqual(difference(one, x, other, y, prices, n), pair(values[0] - values[1]))
        x, y, prices = [DIGITS_4000 + 3, 7], [DIGITS_4000, 9], [(1, DIGITS_4000), (-DIGITS_4000, 3)]
        values = [dot(exacts(prices), exacts(far_mean(twin(), counts, 10 ** 40))) for counts in (x, y)]
        self.assertEqual(difference(twin(), x, twin(), y, prices, 10 ** 40), pair(values[0] - values[1]))


class TestNumerator(unittest.TestCase):
    def test_known_values(self):
        """[12.6] By hand: the difference of these two is n - 5, of those it is 0."""
        found = numerator(twin(), [0, 4], twin(), [6, 0], [1, 1], 0)
        self.assertEqual(found, [(-665280, 1)] + [(0, 1)] * 7)
        self.assertEqual(numerator(KEPT, [1, 6], OTHER_KEPT, [6, 1], [1, 0], 0), [(-5, 1), (1, 1)])
        self.assertEqual(numerator(n=7, prices=[1, 0], y=[6, 1], other=OTHER_KEPT, x=[1, 6], one=KEPT),
                         [(2, 1), (1, 1)])
        self.assertEqual(numerator(lone(), [5], lone(), [5], [7], 5000), [(0, 1), (0, 1)])

    def test_against_the_differences(self):
        """[12.6] The difference after n + s comings, times t0 + n + s - 1 and so on to - K, is the sum of q[i] s**i."""
        zero, late_start = 0, 0
        for one, x, other, y, prices in cases()[1::3]:
            t0 = gaps(one, x)
            most, first = bounds(one, other, t0)
            zero += most == 0
            late_start += first > 0
            for n in (first, first + 3):
                found = numerator(one, x, other, y, prices, n)
                self.assertEqual(len(found), most + 2)
                for entry in found:
                    self.assertEqual([type(entry), entry], [tuple, pair(exact(entry))])
                # The polynomials have a degree of at most K + 1, so K + 2 values decide.
                for s in range(0, most + 2, 1 if most < 6 else 3):
                    worth = exact(difference(one, x, other, y, prices, n + s))
                    for k in range(1, most + 1):
                        worth *= t0 + n + s - k
                    self.assertEqual(sum(exact(entry) * s ** i for i, entry in enumerate(found)), worth)
        self.assertGreater(min(zero, late_start), 10)

    def test_n_at_h_and_below(self):
        """[12.6] After NotPlain: InvalidBound("n") if n is less than H."""
        below = 0
        for one, x, other, y, prices in cases():
            _, first = bounds(one, other, gaps(one, x))
            self.assertEqual(raised(numerator, one, x, other, y, prices, first)[0], "returned")
            for n in range(first):
                below += 1
                self.assertEqual(raised(numerator, one, x, other, y, prices, n), ("InvalidBound", "n"))
        self.assertGreater(below, 100)

    def test_5000_and_more(self):
        """[12.6] n is from 0 to 5000."""
        self.assertEqual(len(numerator(twin(), [0, 4], twin(), [6, 0], [1, 1], 5000)), 8)
        self.assertEqual(raised(numerator, twin(), [0, 4], twin(), [6, 0], [1, 1], 5001), ("InvalidBound", "n"))

    def test_papers_are_followed_by_papers(self):
        """[12.7] If n is a paper, n + 1 is one, and the difference is at most 0 from there on."""
        counted = 0
        for one, x, other, y, prices in cases()[::3]:
            _, first = bounds(one, other, gaps(one, x))
            was = False
            for n in range(first, first + 9):
                found = max(entry[0] for entry in numerator(one, x, other, y, prices, n)) <= 0
                self.assertTrue(found or not was)
                was = found
                if was:
                    counted += 1
                    self.assertLessEqual(difference(one, x, other, y, prices, n)[0], 0)
        self.assertGreater(counted, 100)


class TestNeverAbove(unittest.TestCase):
    def test_known_values(self):
        """[12.8] By hand."""
        self.assertEqual(never_above(twin(), [0, 2], twin(), [3, 0], [1, 1]), ("never", 1))
        self.assertEqual(never_above(prices=[1, 1], y=[0, 2], other=twin(), x=[3, 0], one=twin()), ("above", 0))
        self.assertEqual(never_above(KEPT, [1, 6], OTHER_KEPT, [6, 1], [1, 0]), ("above", 6))
        self.assertEqual(never_above(KEPT, [6, 1], OTHER_KEPT, [1, 6], [0, 1]), ("never", 0))
        self.assertEqual(never_above(lone(), [2], lone(), [2], [3]), ("never", 0))

    def test_against_the_differences(self):
        """[12.8] The least n with a difference above 0, or else the least paper."""
        words = {"above": 0, "never": 0, "late": 0}
        for one, x, other, y, prices in cases()[::3]:
            _, first = bounds(one, other, gaps(one, x))
            for sign in (1, -1):
                costs = [pair(sign * exact(price)) for price in prices]
                found = raised(never_above, one, x, other, y, costs)
                if found == LIMIT:
                    continue
                word, n = found[1]
                words[word] += 1
                words["late"] += n > first
                before = [exact(difference(one, x, other, y, costs, k)) for k in range(min(n, 30))]
                self.assertTrue(all(worth <= 0 for worth in before))
                self.assertEqual(type(n), int)
                if word == "above":
                    self.assertGreater(difference(one, x, other, y, costs, n)[0], 0)
                    continue
                self.assertLessEqual(max(entry[0] for entry in numerator(one, x, other, y, costs, n)), 0)
                if n > first:
                    self.assertGreater(max(entry[0] for entry in numerator(one, x, other, y, costs, n - 1)), 0)
                for k in (n, n + 1, n + 7, 60, 10 ** 9, 10 ** 40):
                    self.assertLessEqual(difference(one, x, other, y, costs, k)[0], 0)
        self.assertGreater(min(words.values()), 10)

    def test_papers_after_h(self):
        """[12.8] The least paper may come after H also where H is above 0."""
        for weights, one, other, x, y, prices, first, expected in [
            ([2, 1, 2], [[0, 1, 1], [1, 0, 0], [1, 1, 0]], [[0, 3, 0], [1, 0, 0], [0, 1, 1]],
             [0, 0, 2], [0, 0, 2], [4, 4, 4], 1, 2),
            ([2, 5, 8, 1], [[0, 0, 0, 3], [0, 1, 0, 1], [0, 0, 1, 1], [0, 0, 0, 2]],
             [[0, 0, 0, 3], [2, 0, 0, 2], [0, 1, 0, 4], [1, 0, 0, 0]],
             [0, 1, 0, 2], [0, 1, 0, 2], [1, 0, -1, -5], 2, 3),
            ([7, 2, 2, 1], [[0, 0, 3, 2], [0, 0, 0, 3], [0, 0, 1, 1], [0, 1, 0, 0]],
             [[0, 0, 4, 0], [0, 0, 1, 1], [0, 1, 0, 1], [0, 0, 1, 0]],
             [0, 2, 0, 3], [0, 0, 3, 1], [4, -5, 3, 3], 1, 4),
        ]:
            books = [Book(weights, [[(1, outcome)] for outcome in outcomes]) for outcomes in (one, other)]
            told = (books[0], x, books[1], y, prices)
            self.assertEqual([never_above(*told), bounds(*books, gaps(books[0], x))[1]], [("never", expected), first])
            for n in range(expected + 2):
                self.assertIs(is_never(*told, n), n >= expected)
                if n >= first:
                    found = max(exact(entry) for entry in numerator(*told, n))
                    self.assertEqual(found <= 0, n >= expected)

    def test_the_least_numbers(self):
        """[12.8] A single 1 in the numerator is above 0: these differences are n + 1 and n - 1, from one page each."""
        self.assertEqual(never_above(KEPT, [1, 0], OTHER_KEPT, [0, 1], [1, 0]), ("above", 0))
        self.assertEqual(never_above(KEPT, [0, 1], OTHER_KEPT, [1, 0], [1, 0]), ("above", 2))
        self.assertIs(is_never(KEPT, [0, 1], OTHER_KEPT, [1, 0], [1, 0], 0), False)

    def test_above_before_h(self):
        """[12.8] The difference may be above 0 while t0 + n is not above some root, and never again."""
        found = 0
        for one, x, other, y, prices in cases():
            _, first = bounds(one, other, gaps(one, x))
            for sign in (1, -1):
                costs = [pair(sign * exact(price)) for price in prices]
                early = [n for n in range(first) if difference(one, x, other, y, costs, n)[0] > 0]
                if early:
                    found += 1
                    self.assertEqual(never_above(one, x, other, y, costs), ("above", early[0]))
                    self.assertFalse(is_never(one, x, other, y, costs, 5000))
        self.assertGreater(found, 20)

    def test_a_difference_that_is_0_for_ever(self):
        """[12.8] H is the least paper then."""
        for book in plain_books():
            for counts in ([0] * (len(book) - 1) + [1], [4] * len(book)):
                _, first = bounds(book, book, gaps(book, counts))
                prices = [k - 1 for k in range(len(book))]
                self.assertEqual(never_above(book, counts, book, counts, prices), ("never", first))
                self.assertIs(is_never(book, counts, book, counts, prices, first), True)
                self.assertIs(is_never(book, counts, book, counts, prices, first - 1), False)

    def test_above_at_5000_and_later(self):
        """[12.8] The difference of these two books is n - many."""
        for many, expected in ((4998, ("returned", ("above", 4999))), (4999, ("returned", ("above", 5000))),
                               (5000, LIMIT), (5001, LIMIT), (10 ** 50, LIMIT)):
            found = raised(never_above, KEPT, [1, many + 1], OTHER_KEPT, [many + 1, 1], [1, 0])
            self.assertEqual(found, expected)
        # It comes so near to 0 that only the last one decides.
        prices = [(1, 10 ** 50), 0]
        self.assertEqual(never_above(KEPT, [1, 5000], OTHER_KEPT, [5000, 1], prices), ("above", 5000))

    def test_papers_at_5000_and_later(self):
        """[12.8] The least paper of these is 4999, 5000 or greater."""
        for many, expected in ((10919, ("returned", ("never", 4999))), (10920, ("returned", ("never", 5000))),
                               (10922, ("returned", ("never", 5000))), (10923, LIMIT)):
            self.assertEqual(raised(never_above, *late(many)), expected)
        self.assertEqual([is_never(*late(10922), n) for n in (4999, 5000)], [False, True])
        self.assertEqual([is_never(*late(10923), n) for n in (5000, 5001)], [False, False])
        for many in (10922, 10923):
            for n, entry in ((4999, None), (5000, None), (5000, numerator(*late(many), 5000))):
                if entry is not None:
                    self.assertEqual(max(number[0] for number in entry) <= 0, many == 10922)
                self.assertLess(difference(*late(many), n)[0], 0)

    def test_long_integers(self):
        """[0.4] [12.8] Long standings and prices."""
        x, y = [DIGITS_4000, 7], [DIGITS_4000 + 3, 5]
        self.assertEqual(never_above(twin(), x, twin(), y, [1, 1]), ("never", 0))
        self.assertEqual(never_above(twin(), x, twin(), y, [-1, -1]), ("above", 0))
        prices = [(1, DIGITS_4000), (-1, DIGITS_40)]
        self.assertEqual(never_above(KEPT, [DIGITS_4000, 0], EVEN, [0, DIGITS_4000], prices), ("above", 0))


class TestIsNever(unittest.TestCase):
    def test_known_values(self):
        """[12.8] By hand."""
        self.assertEqual([is_never(twin(), [0, 2], twin(), [3, 0], [1, 1], n) for n in (0, 1, 2, 5000, 5001)],
                         [False, True, True, True, False])
        self.assertIs(is_never(n=9, prices=[1, 1], y=[0, 2], other=twin(), x=[3, 0], one=twin()), False)

    def test_from_the_least_paper_on(self):
        """[12.7] [12.8] True for all n from the least paper to 5000 if the difference is never above 0."""
        for one, x, other, y, prices in cases()[1::3]:
            found = raised(never_above, one, x, other, y, prices)
            least = found[1][1] if found != LIMIT and found[1][0] == "never" else 5001
            for n in (0, 1, least - 1, least, least + 1, 5000, 5001):
                self.assertIs(is_never(one, x, other, y, prices, n), least <= n <= 5000)

    def test_any_values(self):
        """[0.9] [12.8] n may be any value."""
        for n in [-1, 5001, DIGITS_4000, -DIGITS_4000] + no_integers():
            self.assertIs(is_never(lone(), [2], lone(), [2], [3], n), False)
        self.assertIs(is_never(lone(), [2], lone(), [2], [3], 5000), True)

    def test_a_paper_after_a_difference_above_0(self):
        """[12.8] A paper alone is not enough: this difference is 5 - n."""
        for n in (0, 4, 5, 6, 5000):
            found = numerator(KEPT, [1, 6], OTHER_KEPT, [6, 1], [-1, 0], n)
            self.assertEqual(found, [(5 - n, 1), (-1, 1)])
            self.assertIs(is_never(KEPT, [1, 6], OTHER_KEPT, [6, 1], [-1, 0], n), False)
        self.assertIs(is_never(KEPT, [6, 1], OTHER_KEPT, [6, 1], [-1, 0], 0), True)


class TestErrors(unittest.TestCase):
    def calls(self, one, x, other, y, prices):
        return [raised(difference, one, x, other, y, prices, 0), raised(numerator, one, x, other, y, prices, 30),
                raised(never_above, one, x, other, y, prices), raised(is_never, one, x, other, y, prices, 0)]

    def wrong(self, x, y, prices, error):
        self.assertEqual(self.calls(twin(), x, twin(), y, prices), [error] * 4)

    def test_standings(self):
        """[12.4] Standings of the two books, which need not be short."""
        cases_ = [(counts, -1) for counts in no_lists() + [[], [1], [1, 1, 1], [0, 0]]]
        cases_ += [([entry, 1], 0) for entry in [-1, -DIGITS_4000] + no_integers()]
        cases_ += [([3, entry], 1) for entry in [-1, -DIGITS_4000] + no_integers()]
        for counts, at in cases_:
            self.wrong(counts, [3, 0], [1, 1], ("InvalidStanding", at))
            self.wrong([3, 0], counts, [1, 1], ("InvalidStanding", at))

    def test_gaps(self):
        """[12.4] The standings have the same gaps."""
        for x, y in (([3, 0], [0, 1]), ([3, 0], [3, 1]), ([DIGITS_4000, 0], [DIGITS_4000, 1]), ([1, 0], [0, 1])):
            self.wrong(x, y, [1, 1], ("InvalidBound", "y"))

    def test_prices(self):
        """[12.4] A list of fractions, one for each kind."""
        for prices in no_lists() + [[], [1], [1, 1, 1]] + [[1, price] for price in no_fractions()]:
            self.wrong([3, 0], [0, 2], prices, ("InvalidBound", "prices"))

    def test_n(self):
        """[12.5] [12.6] The greatest n."""
        for n in [-1, 10 ** 40 + 1, DIGITS_4000, -DIGITS_4000] + no_integers():
            error = ("InvalidBound", "n")
            self.assertEqual(raised(difference, twin(), [3, 0], twin(), [0, 2], [1, 1], n), error)
        for n in [-1, 5001, DIGITS_4000, -DIGITS_4000] + no_integers():
            error = ("InvalidBound", "n")
            self.assertEqual(raised(numerator, twin(), [3, 0], twin(), [0, 2], [1, 1], n), error)

    def test_books_that_are_not_plain(self):
        """[12.4] NotPlain for `one`, then for `other`."""
        seen = []
        for book in other_books():
            found = sum(dimension for _, dimension in roots(book))
            counts, prices = [1] * len(book), [1] * len(book)
            self.assertEqual(self.calls(book, counts, book, counts, prices), [("NotPlain", found)] * 4)
            for other in plain_books():
                if other.weights() == book.weights():
                    seen.append(found)
                    self.assertEqual(self.calls(book, counts, other, counts, prices), [("NotPlain", found)] * 4)
                    self.assertEqual(self.calls(other, counts, book, counts, prices), [("NotPlain", found)] * 4)
        self.assertGreater(len(seen), 3)
        # Two books whose roots have one and two dimensions.
        one = Book([1, 1, 1], [[(1, [0, 2, 0])], [(1, [0, 0, 2])], [(1, [2, 0, 0])]])
        other = Book([1, 1, 1], [[(1, [0, 2, 0])], [(1, [0, 2, 0])], [(1, [1, 1, 0])]])
        counts = [1, 2, 3]
        self.assertEqual(self.calls(one, counts, other, counts, counts), [("NotPlain", 1)] * 4)
        self.assertEqual(self.calls(other, counts, one, counts, counts), [("NotPlain", 2)] * 4)

    def test_sequence(self):
        """[12.4] The sequence of the errors."""
        good = {"one": mixed(), "x": [2, 1], "other": mixed(), "y": [0, 2], "prices": [1, 1]}
        first = [
            ("x", [0, -1], ("InvalidStanding", 1)),
            ("other", twin(), ("InvalidBound", "other")),
            ("y", [0, 0], ("InvalidStanding", -1)),
            ("y", [1, 2], ("InvalidBound", "y")),
            ("prices", [1], ("InvalidBound", "prices")),
        ]
        plain = ("one", mixed(), ("NotPlain", 1))
        for call in (difference, numerator):
            check_sequence(self, call, dict(good, n=0), first + [("n", -1, ("InvalidBound", "n")), plain])
        check_sequence(self, never_above, good, first + [plain])
        check_sequence(self, is_never, dict(good, n=None), first + [plain])
        # A wrong n that is less than H comes after NotPlain, one that is too great before it.
        low = Book([1, 2], [[(1, [0, 1])], [(1, [3, 0])]])
        self.assertEqual(roots(low)[0][0], -4)
        self.assertEqual(raised(numerator, low, [1, 0], low, [1, 0], [1, 1], 0), ("InvalidBound", "n"))
        self.assertEqual(raised(numerator, low, [1, 0], mixed(), [1, 0], [1, 1], 0), ("NotPlain", 1))
        self.assertEqual(raised(numerator, low, [1, 0], mixed(), [1, 0], [1, 1], 5001), ("InvalidBound", "n"))


class TestCopies(unittest.TestCase):
    def test_what_is_passed_is_not_changed(self):
        """[0.6] No list that is passed is changed; each returned list is a new one."""
        x, y, prices = [0, 2], [3, 0], [(2, 4), 1]
        difference(twin(), x, twin(), y, prices, 3)
        never_above(twin(), x, twin(), y, prices)
        is_never(twin(), x, twin(), y, prices, 9)
        first, second = [numerator(twin(), x, twin(), y, prices, 9) for _ in range(2)]
        kept = copy.deepcopy(second)
        first.clear()
        self.assertEqual([second, numerator(twin(), x, twin(), y, prices, 9)], [kept, kept])
        self.assertEqual([x, y, prices], [[0, 2], [3, 0], [(2, 4), 1]])

    def test_kinds_of_values(self):
        """[0.3] Fractions in lowest terms."""
        found = numerator(EVEN, [3, 2], KEPT, [2, 3], [(1, 2), (2, 6)], 4)
        self.assertEqual(found, [pair(exact(entry)) for entry in found])
        self.assertEqual(difference(EVEN, [3, 2], KEPT, [2, 3], [(2, 4), 0], 0), (1, 2))
        self.assertEqual(Fraction(1, 2), slow_difference(EVEN, [3, 2], KEPT, [2, 3], [(2, 4), 0], 0))


if __name__ == "__main__":
    unittest.main()
