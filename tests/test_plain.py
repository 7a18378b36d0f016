"""Section 9: roots, plain books, parts, factors, and what they tell."""

import copy
import unittest
from fractions import Fraction

from pageshares.books import Book
from pageshares.coming import gaps
from pageshares.limits import ends, finals, rest
from pageshares.means import mean
from pageshares.plain import factor, far_mean, is_plain, leading, part, roots, still
from tests.bank import all_books, other_books, plain_books, standings
from tests.common import (
    DIGITS_40, DIGITS_4000, lone, mixed, no_integers, no_lists, raised, six, twin,
)
from tests.exact import (
    apply, dot, exact, exact_rows, exacts, matrix_of, null_vectors, pair, pairs, product, shifted, unit,
)

FAR = 10 ** 40


def slow_factor(root, start, n):
    """The product itself."""
    found = Fraction(1)
    for s in range(start, start + n):
        found *= Fraction(s + root, s)
    return found


def root_numbers(book):
    return [root for root, _ in roots(book)]


def of_part(book, root, counts):
    """The vector P x."""
    return apply(exact_rows(part(book, root)), counts)


def meeting(book, counts):
    """The roots other than 1 that meet the standing, ascending."""
    return [root for root in root_numbers(book) if root != 1 and any(of_part(book, root, counts))]


def deep():
    """A book of two kinds of 12 gaps that become each other: -24 is a root."""
    return plain_books()[11]


class TestRoots(unittest.TestCase):
    def test_known_values(self):
        """[9.1] Roots that can be found by hand."""
        self.assertEqual(roots(twin()), [(-6, 1), (1, 1)])
        self.assertEqual(roots(book=mixed()), [(1, 1)])
        self.assertEqual(roots(lone()), [(1, 1)])
        self.assertEqual(roots(Book([1, 1], [[(1, [2, 0])], [(1, [0, 2])]])), [(1, 2)])
        around = Book([1, 1, 1], [[(1, [0, 1, 1])], [(1, [1, 0, 1])], [(1, [1, 1, 0])]])
        self.assertEqual(roots(around), [(-2, 2), (1, 1)])
        self.assertEqual(roots(deep()), [(-24, 1), (-9, 1), (-7, 1), (0, 1), (1, 1)])
        # Each page but the least becomes pages of the least kind only, so its weight is a root.
        book = Book([1, 12, 11, 3, 12, 7], [[(1, [weight + 1, 0, 0, 0, 0, 0])] for weight in (1, 12, 11, 3, 12, 7)])
        self.assertEqual(roots(book), [(-12, 2), (-11, 1), (-7, 1), (-3, 1), (1, 1)])

    def test_vectors(self):
        """[9.1] A root is an integer l with vectors x for which A x = l x, as many as its dimension."""
        for book in all_books():
            rows = matrix_of(book)
            expected = [(root, len(null_vectors(shifted(rows, root)))) for root in range(-30, 5)]
            self.assertEqual(roots(book), [(root, dimension) for root, dimension in expected if dimension])

    def test_facts(self):
        """[8.6] [9.1] 1 is a root, with a dimension for each final set, and all roots are from -25 to 1."""
        for book in all_books():
            found = roots(book)
            self.assertEqual(found[-1], (1, len(finals(book))))
            self.assertGreaterEqual(found[0][0], -25)


class TestIsPlain(unittest.TestCase):
    def test_plain_books(self):
        """[9.2] The dimensions add up to the number of kinds."""
        for book in plain_books():
            self.assertIs(is_plain(book), True)
            self.assertEqual(sum(dimension for _, dimension in roots(book)), len(book))
        self.assertIs(is_plain(book=twin()), True)

    def test_other_books(self):
        """[9.2] Some have roots that are no integers, some too few dimensions."""
        for book in other_books():
            self.assertIs(is_plain(book), False)
            self.assertLess(sum(dimension for _, dimension in roots(book)), len(book))

    def test_not_plain(self):
        """[9.2] `found` is the sum of the dimensions of all roots."""
        bent = Book([1, 1, 1], [[(1, [0, 2, 0])], [(1, [0, 2, 0])], [(1, [1, 1, 0])]])
        self.assertEqual(roots(bent), [(-1, 1), (1, 1)])
        for book, found in [(bent, 2), (mixed(), 1)]:
            self.assertEqual(raised(part, book, 1), ("NotPlain", found))
        for book in other_books():
            error = ("NotPlain", sum(dimension for _, dimension in roots(book)))
            counts = [1] * len(book)
            self.assertEqual(raised(part, book, 1), error)
            self.assertEqual(raised(part, book, -25), error)
            self.assertEqual(raised(far_mean, book, counts, 3), error)
            self.assertEqual(raised(still, book, counts), error)
            self.assertEqual(raised(leading, book, counts), error)


class TestPart(unittest.TestCase):
    def test_known_values(self):
        """[9.3] Parts that can be found by hand."""
        self.assertEqual(part(twin(), 1), [[(4, 7), (6, 7)], [(2, 7), (3, 7)]])
        self.assertEqual(part(root=-6, book=twin()), [[(3, 7), (-6, 7)], [(-2, 7), (4, 7)]])
        self.assertEqual(part(lone(), 1), [[(1, 1)]])
        self.assertEqual(part(Book([1, 1], [[(1, [2, 0])], [(1, [0, 2])]]), 1), [[(1, 1), (0, 1)], [(0, 1), (1, 1)]])

    def test_product(self):
        """[9.3] The product, over all other roots m, of A - m divided by l - m."""
        for book in plain_books():
            found = root_numbers(book)
            for root in found:
                expected = unit(len(book))
                for other in found:
                    if other != root:
                        factor_rows = [[entry / (root - other) for entry in line]
                                       for line in shifted(matrix_of(book), other)]
                        expected = product(expected, factor_rows)
                self.assertEqual(part(book, root), [pairs(line) for line in expected])

    def test_facts(self):
        """[9.3] The sum is the unit matrix, A P = l P, P P = P, and parts of different roots give 0."""
        for book in plain_books():
            many, rows = len(book), matrix_of(book)
            parts = {root: exact_rows(part(book, root)) for root in root_numbers(book)}
            summed = [[sum(rows_[j][i] for rows_ in parts.values()) for i in range(many)] for j in range(many)]
            self.assertEqual(summed, unit(many))
            for root, one in parts.items():
                self.assertEqual(product(rows, one), [[root * entry for entry in line] for line in one])
                for other_root, other in parts.items():
                    expected = one if root == other_root else [[0] * many for _ in range(many)]
                    self.assertEqual(product(one, other), expected)

    def test_wrong_roots(self):
        """[0.9] [9.3] The root may be any value; one from -25 to 1 may be no root of the book."""
        for value in [-26, 2, DIGITS_40, DIGITS_4000, -DIGITS_4000] + no_integers():
            with self.subTest(repr(value)[:60]):
                self.assertEqual(raised(part, twin(), value), ("InvalidBound", "root"))
                self.assertEqual(raised(part, mixed(), value), ("InvalidBound", "root"))
        for root in range(-25, 2):
            if root not in (-6, 1):
                self.assertEqual(raised(part, twin(), root), ("InvalidBound", "root"))
            self.assertEqual(raised(part, mixed(), root), ("NotPlain", 1))


class TestFactor(unittest.TestCase):
    def test_known_values(self):
        """[9.4] The product of (s + l) / s."""
        self.assertEqual([factor(-6, 8, 2), factor(-6, 2, 1), factor(-6, 2, 5)], [(1, 12), (-2, 1), (0, 1)])
        self.assertEqual([factor(1, 4, 3), factor(n=5, start=3, root=0)], [(7, 4), (1, 1)])
        self.assertEqual([factor(-25, 1, 24), factor(-25, 1, 25), factor(-25, 25, 1)], [(1, 1), (0, 1), (0, 1)])

    def test_against_the_product(self):
        """[9.4] All roots, with starts at, below and above -root."""
        for root in range(-25, 2):
            for start in list(range(1, 30)) + [100, 1009]:
                for n in list(range(28)) + [60, 200]:
                    self.assertEqual(factor(root, start, n), pair(slow_factor(root, start, n)), (root, start, n))

    def test_no_comings(self):
        """[9.4] It is 1 if n is 0, also for a start at or below -root."""
        for root in range(-25, 2):
            for start in (1, 24, 25, 26, DIGITS_40, DIGITS_4000):
                self.assertEqual(factor(root, start, 0), (1, 1))

    def test_far(self):
        """[9.4] n up to 10 ** 40, and any start."""
        for start in (1, 2, 12, 25, 26, 27, DIGITS_40):
            for n in (FAR, FAR - 1, 10 ** 20):
                self.assertEqual(factor(1, start, n), pair(Fraction(start + n, start)))
                self.assertEqual(factor(0, start, n), (1, 1))
                for k in (1, 2, 12, 25):
                    expected = Fraction(int(k < start))
                    for i in range(1, k + 1):
                        expected *= Fraction(start - i, start + n - i)
                    self.assertEqual(factor(-k, start, n), pair(expected))

    def test_long_starts(self):
        """[0.4] [9.4] The start may have 4,000 digits."""
        for root in (1, 0, -1, -7):
            self.assertEqual(factor(root, DIGITS_4000, 3), pair(slow_factor(root, DIGITS_4000, 3)))
        above, below = factor(-25, DIGITS_4000, FAR)
        t = DIGITS_4000
        expected, divisor = 1, 1
        for i in range(1, 26):
            expected, divisor = expected * (t - i), divisor * (t + FAR - i)
        self.assertEqual(above * divisor, expected * below)

    def test_steps(self):
        """[9.4] One more coming multiplies by (s + l) / s, far out too."""
        for root in (-25, -12, -1, 0, 1):
            for start in (3, 30, DIGITS_40):
                for n in (0, 5, FAR - 1):
                    grown = exact(factor(root, start, n)) * Fraction(start + n + root, start + n)
                    self.assertEqual(factor(root, start, n + 1), pair(grown))

    def test_errors(self):
        """[0.8] [9.4] The root, the start, then n."""
        for value in no_integers() + [-DIGITS_4000]:
            with self.subTest(repr(value)[:60]):
                self.assertEqual(raised(factor, value, 1, 1), ("InvalidBound", "root"))
                self.assertEqual(raised(factor, value, value, value), ("InvalidBound", "root"))
                self.assertEqual(raised(factor, -6, value, 1), ("InvalidBound", "start"))
                self.assertEqual(raised(factor, -6, value, value), ("InvalidBound", "start"))
                self.assertEqual(raised(factor, -6, 1, value), ("InvalidBound", "n"))
        for root in (-26, 2, DIGITS_4000):
            self.assertEqual(raised(factor, root, 0, -1), ("InvalidBound", "root"))
        for start in (0, -1, -DIGITS_4000):
            self.assertEqual(raised(factor, 1, start, -1), ("InvalidBound", "start"))
        for n in (-1, FAR + 1, DIGITS_4000):
            self.assertEqual(raised(factor, 0, 1, n), ("InvalidBound", "n"))


class TestFarMean(unittest.TestCase):
    def test_known_values(self):
        """[9.5] MEAN(n) of a plain book."""
        self.assertEqual(far_mean(twin(), [1, 0], 10), [(24, 7), (12, 7)])
        self.assertEqual(far_mean(n=FAR, counts=[0, 2], book=twin()), pairs([Fraction((6 + FAR) * 2, 7),
                                                                             Fraction(6 + FAR, 7)]))
        self.assertEqual(far_mean(lone(), [DIGITS_4000], FAR), [(DIGITS_4000 + FAR, 1)])

    def test_it_is_the_mean(self):
        """[9.5] As `mean` finds it, for every n that it takes."""
        for book in plain_books():
            for counts in standings(len(book)) + [[1000000] * len(book)]:
                for n in (0, 1, 2, 3, 11, 30, 200):
                    self.assertEqual(far_mean(book, counts, n), mean(book, counts, n))

    def test_sum_of_factors_and_parts(self):
        """[9.5] The sum of the factors times the vectors P x."""
        for book in plain_books():
            for counts in standings(len(book)):
                t, found = gaps(book, counts), root_numbers(book)
                vectors = {root: of_part(book, root, counts) for root in found}
                for n in (5, FAR):
                    factors = {root: exact(factor(root, t, n)) for root in found}
                    expected = [sum(factors[root] * vectors[root][k] for root in found) for k in range(len(book))]
                    self.assertEqual(far_mean(book, counts, n), pairs(expected))

    def test_recursion_far_out(self):
        """[5.2] [9.5] The recursion of the means holds up to n = 10 ** 40, also for long standings."""
        for book in plain_books():
            rows = matrix_of(book)
            for counts in ([1] * len(book), [DIGITS_40 + k for k in range(len(book))]):
                for n in (0, 199, 10 ** 20, FAR - 1):
                    t = gaps(book, counts) + n
                    vector = exacts(far_mean(book, counts, n))
                    grown = [a + b / t for a, b in zip(vector, apply(rows, vector))]
                    self.assertEqual(far_mean(book, counts, n + 1), pairs(grown))
                    self.assertEqual(dot(book.weights(), vector), t)

    def test_4000_digits(self):
        """[0.4] [9.5] Standings of 4,000 digits."""
        counts = [DIGITS_4000, DIGITS_4000 + 5]
        self.assertEqual(far_mean(twin(), counts, 0), [(count, 1) for count in counts])
        vector = [Fraction(count) for count in counts]
        t = gaps(twin(), counts)
        for n in range(3):
            vector = [a + b / (t + n) for a, b in zip(vector, apply(matrix_of(twin()), vector))]
        self.assertEqual(far_mean(twin(), counts, 3), pairs(vector))
        for book in (twin(), deep()):
            counts = [DIGITS_4000 + k for k in range(len(book))]
            found = far_mean(book, counts, FAR)
            self.assertEqual(dot(book.weights(), exacts(found)), gaps(book, counts) + FAR)

    def test_errors(self):
        """[0.8] [9.5] The standing, n, then whether the book is plain."""
        for book in (twin(), mixed()):
            for counts in no_lists() + [[], [1], [1, 1, 1], [0, 0]]:
                self.assertEqual(raised(far_mean, book, counts, -1), ("InvalidStanding", -1))
            for entry in [-1, -DIGITS_4000] + no_integers():
                self.assertEqual(raised(far_mean, book, [entry, -1], -1), ("InvalidStanding", 0))
                self.assertEqual(raised(far_mean, book, [0, entry], -1), ("InvalidStanding", 1))
            for n in [-1, FAR + 1, DIGITS_4000, -DIGITS_4000] + no_integers():
                with self.subTest(repr(n)[:60]):
                    self.assertEqual(raised(far_mean, book, [1, 0], n), ("InvalidBound", "n"))
        self.assertEqual(raised(far_mean, mixed(), [1, 0], FAR), ("NotPlain", 1))


class TestStill(unittest.TestCase):
    def test_known_values(self):
        """[9.6] The least number from which on the rest is 0."""
        self.assertEqual([still(twin(), [1, 0]), still(counts=[0, 1], book=twin())], [5, 4])
        self.assertEqual([still(twin(), [3, 0]), still(twin(), [7, 0]), still(twin(), [0, 2])], [1, None, 1])
        # 4 pages of kind 0 and 2 of kind 1 are settled: no root but 1 meets them.
        self.assertEqual([still(twin(), [4, 2]), still(twin(), [4, 1])], [0, None])
        self.assertEqual([still(lone(), [1]), still(lone(), [DIGITS_4000])], [0, 0])
        self.assertEqual(still(deep(), [0, 0, 0, 0, 5]), 0)
        self.assertEqual([still(deep(), [0, 1, 0, 0, 0]), still(deep(), [1, 0, 0, 0, 0])], [1, None])

    def test_against_the_rests(self):
        """[9.6] The rest is 0 from there on and not one coming before; without such n it never stays 0."""
        seen = {"none": 0, "zero": 0, "later": 0}
        for book in plain_books():
            for counts in standings(len(book)):
                zero = [not any(exacts(rest(book, counts, n))) for n in range(41)]
                found = still(book, counts)
                if found is None:
                    self.assertFalse(zero[40])
                else:
                    self.assertEqual([all(zero[found:]), any(zero[:found][-1:])], [True, False])
                seen["none" if found is None else "later" if found else "zero"] += 1
        self.assertGreater(min(seen.values()), 3)

    def test_fact(self):
        """[9.6] By the roots that meet the standing."""
        for book in plain_books():
            for counts in standings(len(book)):
                t, met = gaps(book, counts), meeting(book, counts)
                if any(-root < t for root in met):
                    self.assertIs(still(book, counts), None)
                else:
                    self.assertEqual(still(book, counts), max([1 - root - t for root in met], default=0))

    def test_long_integers(self):
        """[0.4] [9.6] Standings of 4,000 digits: settled ones are still, the others are not."""
        self.assertEqual(still(twin(), [2 * DIGITS_4000, DIGITS_4000]), 0)
        self.assertIs(still(twin(), [2 * DIGITS_4000, DIGITS_4000 + 1]), None)
        for book in plain_books():
            counts = [DIGITS_4000 + k for k in range(len(book))]
            self.assertEqual(still(book, counts), None if meeting(book, counts) else 0)


class TestLeading(unittest.TestCase):
    def test_known_values(self):
        """[9.7] The greatest root that stays, and its vector."""
        self.assertEqual(leading(twin(), [0, 3]), (-6, [(-18, 7), (12, 7)]))
        self.assertEqual(leading(counts=[7, 0], book=twin()), (-6, [(3, 1), (-2, 1)]))
        self.assertEqual([leading(twin(), [1, 0]), leading(twin(), [4, 2]), leading(lone(), [1])], [None] * 3)

    def test_none_where_still_is_an_integer(self):
        """[9.7] None exactly if `still` returns an integer."""
        for book in plain_books():
            for counts in standings(len(book)):
                self.assertEqual(leading(book, counts) is None, still(book, counts) is not None)

    def test_root_and_vector(self):
        """[9.7] The greatest root other than 1 with -l less than t0 that meets the standing, and P x."""
        for book in plain_books():
            for counts in standings(len(book)) + [[DIGITS_4000 + k for k in range(len(book))]]:
                lasting = [root for root in meeting(book, counts) if -root < gaps(book, counts)]
                found = leading(book, counts)
                if found is not None:
                    self.assertEqual(found, (max(lasting), pairs(of_part(book, max(lasting), counts))))
                    self.assertEqual([type(found), type(found[1])], [tuple, list])

    def test_the_rest_settles_there(self):
        """[9.7] The rest divided by the factor comes close to the vector."""
        tried = 0
        for book in plain_books():
            for counts in standings(len(book)):
                found = leading(book, counts)
                if found is not None:
                    root, vector = found[0], exacts(found[1])
                    t = gaps(book, counts)
                    scale = exact(factor(root, t, FAR))
                    goal = exacts(ends(book, counts))
                    far = [a - (t + FAR) * b for a, b in zip(exacts(far_mean(book, counts, FAR)), goal)]
                    self.assertTrue(all(abs(a / scale - b) < Fraction(1, 10 ** 30) for a, b in zip(far, vector)))
                    tried += 1
        self.assertGreater(tried, 30)


class TestErrors(unittest.TestCase):
    def test_still_and_leading(self):
        """[0.8] [9.6] [9.7] The standing, then whether the book is plain."""
        for call in (still, leading):
            for book in (twin(), mixed()):
                for counts in no_lists() + [[], [1], [1, 1, 1], [0, 0]]:
                    self.assertEqual(raised(call, book, counts), ("InvalidStanding", -1))
                for entry in [-1, -DIGITS_40, -DIGITS_4000] + no_integers():
                    self.assertEqual(raised(call, book, [entry, -1]), ("InvalidStanding", 0))
                    self.assertEqual(raised(call, book, [0, entry]), ("InvalidStanding", 1))
            self.assertEqual(raised(call, mixed(), [0, 1]), ("NotPlain", 1))
            self.assertEqual(raised(call, other_books()[2], [0, 0, DIGITS_4000]), ("NotPlain", 2))


class TestCopies(unittest.TestCase):
    def test_what_is_passed_is_not_changed(self):
        """[0.6] [0.11] No list that is passed is changed, and no book."""
        counts, book = [1, 1], twin()
        far_mean(book, counts, 9)
        still(book, counts)
        leading(book, counts)
        part(book, 1)
        self.assertEqual([counts, book == twin()], [[1, 1], True])

    def test_returned_lists_are_new(self):
        """[0.6] Each returned list is a new one at each call, and so is each list inside it."""
        calls = [
            lambda: roots(six()), lambda: part(twin(), 1), lambda: part(lone(), 1), lambda: far_mean(twin(), [1, 2], 0),
            lambda: leading(twin(), [0, 3])[1],
        ]
        for call in calls:
            first, second = call(), call()
            kept = copy.deepcopy(second)
            for entry in first:
                if isinstance(entry, list):
                    entry[0] = None
            first.append(None)
            self.assertEqual([second, call()], [kept, kept])

    def test_lowest_terms(self):
        """[0.3] Fractions are tuples in lowest terms."""
        for entry in part(twin(), 1)[0] + far_mean(twin(), [1, 2], 3) + leading(twin(), [0, 3])[1] + [factor(-6, 8, 2)]:
            self.assertEqual([type(entry), entry], [tuple, pair(exact(entry))])


if __name__ == "__main__":
    unittest.main()
