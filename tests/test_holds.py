"""Section 10, points 10.1 to 10.9: holds."""

import copy
import unittest
from fractions import Fraction
from functools import lru_cache

from pageshares.books import Book
from pageshares.coming import gaps
from pageshares.fitting import fitted_hold
from pageshares.holds import begin, hold_matrix, is_hold, norm, share_bound, simple_hold, within
from pageshares.limits import has_limit, limit, rest
from pageshares.means import mean
from tests.bank import all_books, standings
from tests.common import (
    DIGITS_40, DIGITS_4000, books, check_sequence, lone, mixed, no_fractions, no_integers, no_lists, raised, twin,
)
from tests.exact import exact, exacts, matrix_of, pair, pairs

HOLD = ([2, 3], [2, 1])
TINY = Fraction(1, 10 ** 60)


def shifted_matrix(book, shift):
    """The matrix B of point [10.2]."""
    rows, weights = matrix_of(book), book.weights()
    return [[entry - exact(shift[j]) * weights[i] for i, entry in enumerate(line)] for j, line in enumerate(rows)]


def column_sums(book, scale, shift):
    """What has to be at most 0 for each kind."""
    rows, kinds, sizes = shifted_matrix(book, shift), range(len(book)), exacts(scale)
    return [sizes[i] * rows[i][i] + sum(sizes[j] * abs(rows[j][i]) for j in kinds if j != i) for i in kinds]


def scales(many):
    """Scales for so many kinds."""
    return [[1] * many, [k + 1 for k in range(many)], [(1, k + 2) for k in range(many)],
            [(many - k + 1, 3) for k in range(many)]]


@lru_cache(maxsize=None)
def held_books():
    """Tuples of a book and a hold of it, for all books that have one with one of the scales."""
    found = []
    for book in all_books():
        for scale in scales(len(book)) + [book.weights()]:
            word, shift = fitted_hold(book, scale)
            if word == "hold":
                found.append((book, (scale, shift)))
        if simple_hold(book) is not None:
            found.append((book, simple_hold(book)))
    return found


class TestIsHold(unittest.TestCase):
    def test_known_values(self):
        """[10.2] Holds that can be checked by hand."""
        self.assertIs(is_hold(twin(), HOLD), True)
        self.assertIs(is_hold(value=([(2, 1), (6, 2)], [(4, 2), 1]), book=twin()), True)
        self.assertIs(is_hold(twin(), ([2, 3], [0, 0])), False)
        self.assertIs(is_hold(lone(), ([5], [1])), True)
        self.assertIs(is_hold(lone(), ([(1, DIGITS_4000)], [DIGITS_4000])), True)

    def test_exactly_met_and_missed_by_little(self):
        """[10.2] At most 0 is enough, and anything above it is too much."""
        # With the scale [1, 1] and the shift [s, 1] the condition of kind 1 is |6 - 3 s| <= 6.
        for shift, good in ((0, True), (4, True), (-TINY, False), (4 + TINY, False), (TINY, True), (2, True)):
            self.assertIs(is_hold(twin(), ([1, 1], [pair(shift), 1])), good)
        self.assertIs(is_hold(lone(), ([3], [1])), True)
        self.assertIs(is_hold(lone(), ([3], [pair(1 - TINY)])), False)
        self.assertIs(is_hold(lone(), ([3], [(DIGITS_4000 - 1, DIGITS_4000)])), False)

    def test_against_the_condition(self):
        """[10.2] For all books, with shifts around those of a hold."""
        counted = {True: 0, False: 0}
        for book in all_books():
            many = len(book)
            for scale in scales(many):
                word, found = fitted_hold(book, scale)
                shifts = [[0] * many, [1] * many, [(k - 1, 2) for k in range(many)]]
                if word == "hold":
                    shifts += [found] + [
                        [pair(exact(entry) + step * (k == place)) for k, entry in enumerate(found)]
                        for place in range(many) for step in (Fraction(1, 7), Fraction(-1, 7), Fraction(-3))
                    ]
                for shift in shifts:
                    expected = max(column_sums(book, scale, shift)) <= 0
                    counted[expected] += 1
                    self.assertIs(is_hold(book, (scale, shift)), expected)
        self.assertGreater(min(counted.values()), 100)

    def test_any_values(self):
        """[0.9] [10.2] Any value is a hold or not."""
        for value in no_lists() + [[], [1, 1], ([1, 1],), ([1, 1], [1, 1], [1, 1]), [[2, 3], [2, 1]]]:
            self.assertIs(is_hold(twin(), value), False)
        for value in [value for value in no_integers() if value != [1, 2]]:
            for wrong in ((value, [2, 1]), ([2, 3], value), (value, value)):
                self.assertIs(is_hold(twin(), wrong), False)
        for value in no_fractions():
            for wrong in (([value, 3], [2, 1]), ([2, value], [2, 1]), ([2, 3], [value, 1]), ([2, 3], [2, value])):
                self.assertIs(is_hold(twin(), wrong), False)
        for value in (0, -1, (0, 5), (-1, 2), -DIGITS_4000):
            self.assertIs(is_hold(twin(), ([2, value], [2, 1])), False)

    def test_long_integers(self):
        """[0.4] [10.2] Entries of 4,000 digits."""
        scale = [(2 * DIGITS_4000, DIGITS_40), (3 * DIGITS_4000, DIGITS_40)]
        self.assertIs(is_hold(twin(), (scale, [(2 * DIGITS_4000, DIGITS_4000), (DIGITS_40, DIGITS_40)])), True)
        self.assertIs(is_hold(twin(), (scale, [DIGITS_4000, DIGITS_4000])), False)
        self.assertIs(is_hold(twin(), ([1, 1], [(4 * DIGITS_4000, DIGITS_4000), 1])), True)
        self.assertIs(is_hold(twin(), ([1, 1], [(4 * DIGITS_4000 + 1, DIGITS_4000), 1])), False)

    def test_books_without_a_limit(self):
        """[10.6] A book that has a hold has a limit."""
        for book in all_books():
            if not has_limit(book):
                self.assertIs(simple_hold(book), None)
                for scale in scales(len(book)):
                    self.assertEqual(fitted_hold(book, scale)[0], "none")
        self.assertTrue(all(has_limit(book) for book, _ in held_books()))
        self.assertGreater(len(held_books()), 40)


class TestHoldMatrix(unittest.TestCase):
    def test_known_values(self):
        """[10.4] The matrix B."""
        self.assertEqual(hold_matrix(twin(), HOLD), [[(-6, 1), (0, 1)], [(0, 1), (-6, 1)]])
        self.assertEqual(hold_matrix(hold=([1, 1], [(1, 2), 1]), book=twin()), [[(-3, 1), (9, 2)], [(0, 1), (-6, 1)]])
        self.assertEqual(hold_matrix(lone(), ([1], [(7, 3)])), [[(-4, 3)]])

    def test_against_its_entries(self):
        """[10.2] [10.4] A[j][i] - shift[j] * weights[i]."""
        for book, hold in held_books():
            self.assertEqual(hold_matrix(book, hold), [pairs(line) for line in shifted_matrix(book, hold[1])])

    def test_new_lists(self):
        """[0.6] New lists at each call."""
        hold = copy.deepcopy(HOLD)
        first = hold_matrix(twin(), hold)
        first[0][0] = None
        first[1].clear()
        self.assertEqual(hold_matrix(twin(), hold), [[(-6, 1), (0, 1)], [(0, 1), (-6, 1)]])
        self.assertEqual(hold, HOLD)


class TestBegin(unittest.TestCase):
    def test_known_values(self):
        """[10.4] The least integer of at least 1."""
        self.assertEqual(begin(twin(), HOLD), 6)
        self.assertEqual(begin(hold=([1, 1], [(1, 2), 1]), book=twin()), 6)
        self.assertEqual(begin(twin(), ([1, 1], [3, 1])), 8)
        self.assertEqual(begin(twin(), ([1, 1], [(301, 100), 1])), 9)
        self.assertEqual(begin(lone(), ([1], [1])), 1)
        self.assertEqual(begin(lone(), ([1], [2])), 1)
        self.assertEqual(begin(lone(), ([1], [pair(2 + TINY)])), 2)
        self.assertEqual(begin(lone(), ([1], [DIGITS_4000])), DIGITS_4000 - 1)

    def test_it_is_the_least(self):
        """[10.4] Each B[i][i] is at least -T, and T is 1 or some B[i][i] is less than 1 - T."""
        for book, hold in held_books():
            diagonal = [line[kind] for kind, line in enumerate(shifted_matrix(book, hold[1]))]
            least = begin(book, hold)
            self.assertEqual(type(least), int)
            self.assertGreaterEqual(min(diagonal), -least)
            self.assertTrue(least == 1 or min(diagonal) < 1 - least)


class TestNorm(unittest.TestCase):
    def test_known_values(self):
        """[10.5] The sum of scale[i] * |vector[i]|; the vector may have any weight."""
        self.assertEqual(norm(twin(), HOLD, [(3, 35), (-2, 35)]), (12, 35))
        self.assertEqual(norm(vector=[-1, (6, 4)], hold=HOLD, book=twin()), (13, 2))
        self.assertEqual(norm(twin(), HOLD, [0, (0, 9)]), (0, 1))
        self.assertEqual(norm(lone(), ([(1, 2)], [1]), [-DIGITS_4000]), pair(Fraction(DIGITS_4000, 2)))

    def test_against_python_fractions(self):
        """[10.5] For all books with a hold."""
        for book, hold in held_books():
            vector = [(-1) ** k * Fraction(3 * k + 1, k + 2) for k in range(len(book))]
            expected = sum(size * abs(entry) for size, entry in zip(exacts(hold[0]), vector))
            self.assertEqual(norm(book, hold, pairs(vector)), pair(expected))

    def test_it_never_grows(self):
        """[10.6] From T gaps on the norm of the rest never grows."""
        for book, hold in held_books():
            least = begin(book, hold)
            for counts in standings(len(book))[-3:]:
                start = max(0, int(least) - gaps(book, counts))
                if start <= 60:
                    found = [exact(norm(book, hold, rest(book, counts, n))) for n in range(start, start + 8)]
                    self.assertEqual(found, sorted(found, reverse=True))

    def test_differences_of_means_do_not_grow(self):
        """[10.6] The same for two standings with equally many gaps."""
        for book, hold in held_books():
            weights, many = book.weights(), len(book)
            for k in range(1, many):
                one, other = [2] * many, [2] * many
                one[0] += weights[k]
                other[k] += weights[0]
                start = max(0, begin(book, hold) - gaps(book, one))
                if start <= 60:
                    found = []
                    for n in range(start, start + 5):
                        vector = [a - b for a, b in zip(exacts(mean(book, one, n)), exacts(mean(book, other, n)))]
                        found.append(exact(norm(book, hold, pairs(vector))))
                    self.assertEqual(found, sorted(found, reverse=True))


class TestShareBound(unittest.TestCase):
    def test_known_values(self):
        """[10.7] The norm by the scale of the kind and the gaps."""
        self.assertEqual(share_bound(twin(), [1, 0], HOLD, 0, 4, 10), (1, 70))
        self.assertEqual(share_bound(twin(), [1, 0], HOLD, 1, 4, 10), (1, 105))
        self.assertEqual(share_bound(n=4, start=4, kind=0, hold=HOLD, counts=[1, 0], book=twin()), (1, 35))
        self.assertEqual(share_bound(twin(), [1, 0], HOLD, 0, 5, 5), (0, 1))
        self.assertEqual(share_bound(lone(), [7], ([1], [1]), 0, 200, DIGITS_4000), (0, 1))

    def test_against_its_definition(self):
        """[10.7] norm / (scale[kind] * t), also for very great n."""
        for book, hold in held_books():
            for counts in standings(len(book))[-2:] + [[1000000] * len(book)]:
                t, least = gaps(book, counts), begin(book, hold)
                start = max(0, least - t)
                if start > 200:
                    continue
                for at in sorted({start, min(200, start + 3)}):
                    size = exact(norm(book, hold, rest(book, counts, at)))
                    for kind in range(len(book)):
                        for n in (at, 10 ** 50):
                            expected = size / (exact(hold[0][kind]) * (t + n))
                            self.assertEqual(share_bound(book, counts, hold, kind, at, n), pair(expected))

    def test_it_is_a_bound(self):
        """[10.7] The share differs from the entry of the limit by at most this."""
        for book, hold in held_books():
            goal = exacts(limit(book))
            for counts in standings(len(book))[-2:]:
                t = gaps(book, counts)
                start = max(0, begin(book, hold) - t)
                if start <= 60:
                    for n in (start, start + 1, start + 9):
                        means = exacts(mean(book, counts, n))
                        for kind in range(len(book)):
                            bound = exact(share_bound(book, counts, hold, kind, start, n))
                            self.assertLessEqual(abs(means[kind] / (t + n) - goal[kind]), bound)

    def test_start_at_t_and_below(self):
        """[10.7] The gaps after the start are at least T."""
        for call in (lambda start: share_bound(twin(), [1, 0], HOLD, 0, start, 300),
                     lambda start: within(twin(), [1, 0], HOLD, 0, start, 1)):
            self.assertEqual(raised(call, 4)[0], "returned")
            self.assertEqual(raised(call, 3), ("InvalidBound", "start"))
            self.assertEqual(raised(call, 200)[0], "returned")
            self.assertEqual(raised(call, 201), ("InvalidBound", "start"))
        self.assertEqual(raised(share_bound, twin(), [3, 0], HOLD, 0, 0, 0)[0], "returned")
        self.assertEqual(raised(share_bound, twin(), [1, 1], HOLD, 0, 0, 0), ("InvalidBound", "start"))
        wide_hold = ([1], [DIGITS_4000])
        self.assertEqual(raised(share_bound, lone(), [1000000], wide_hold, 0, 200, 200), ("InvalidBound", "start"))
        for book, hold in held_books():
            counts = [1] * len(book)
            least = begin(book, hold) - gaps(book, counts)
            if 1 <= least <= 200:
                self.assertEqual(raised(share_bound, book, counts, hold, 0, least, 200)[0], "returned")
                error = ("InvalidBound", "start")
                self.assertEqual(raised(share_bound, book, counts, hold, 0, least - 1, 200), error)

    def test_long_integers(self):
        """[0.4] [10.7] n may have any size."""
        found = share_bound(twin(), [1000000, 999999], HOLD, 1, 200, DIGITS_4000)
        size = exact(norm(twin(), HOLD, rest(twin(), [1000000, 999999], 200)))
        self.assertEqual(found, pair(size / (3 * (gaps(twin(), [1000000, 999999]) + DIGITS_4000))))


class TestWithin(unittest.TestCase):
    def test_known_values(self):
        """[10.8] The least n."""
        self.assertEqual(within(twin(), [1, 0], HOLD, 0, 4, (1, 100)), 16)
        self.assertEqual(within(distance=(1, 70), start=4, kind=0, hold=HOLD, counts=[1, 0], book=twin()), 10)
        self.assertEqual(within(twin(), [1, 0], HOLD, 0, 4, (1, 35)), 4)
        self.assertEqual(within(twin(), [1, 0], HOLD, 0, 4, 9), 4)
        self.assertEqual(within(twin(), [1, 0], HOLD, 0, 5, (1, DIGITS_4000)), 5)
        self.assertEqual(within(lone(), [3], ([1], [1]), 0, 7, (1, DIGITS_4000)), 7)

    def test_it_is_the_least(self):
        """[10.8] The bound is at most the distance at n, and not at n - 1."""
        moved = 0
        for book, hold in held_books():
            for counts in standings(len(book))[-2:]:
                start = max(0, begin(book, hold) - gaps(book, counts))
                if start > 60:
                    continue
                for kind in range(len(book)):
                    for distance in ((2, 2000), (1, DIGITS_4000)):
                        n = within(book, counts, hold, kind, start, distance)
                        self.assertEqual(type(n), int)
                        bound = share_bound(book, counts, hold, kind, start, n)
                        self.assertLessEqual(exact(bound), exact(distance))
                        if n > start:
                            moved += 1
                            before = share_bound(book, counts, hold, kind, start, n - 1)
                            self.assertGreater(exact(before), exact(distance))
        self.assertGreater(moved, 100)

    def test_at_the_bound_itself(self):
        """[10.8] A distance that is exactly a bound is reached then, a little less only later."""
        for n in (4, 5, 77, 10 ** 30):
            bound = exact(share_bound(twin(), [1, 0], HOLD, 1, 4, n))
            self.assertEqual(within(twin(), [1, 0], HOLD, 1, 4, pair(bound)), n)
            self.assertEqual(within(twin(), [1, 0], HOLD, 1, 4, pair(bound * (1 - TINY))), n + 1)


class TestSimpleHold(unittest.TestCase):
    def test_known_values(self):
        """[10.9] The weights as scale, the least rates as shift."""
        self.assertEqual(simple_hold(twin()), ([(2, 1), (3, 1)], [(2, 1), (1, 1)]))
        self.assertEqual(simple_hold(book=lone()), ([(1, 1)], [(1, 1)]))
        self.assertIs(simple_hold(Book([1, 1], [[(1, [2, 0])], [(1, [0, 2])]])), None)

    def test_against_its_definition(self):
        """[10.9] Entry j of the shift is the least A[j][i] / weights[i]; it is a hold if these weigh at least 1."""
        none = 0
        for book in all_books():
            if len(book) == 1:
                continue
            rows, weights, kinds = matrix_of(book), book.weights(), range(len(book))
            shift = [min(rows[j][i] / weights[i] for i in kinds if i != j) for j in kinds]
            found = simple_hold(book)
            self.assertEqual(found is not None, sum(w * s for w, s in zip(weights, shift)) >= 1)
            self.assertEqual(found is not None, max(column_sums(book, weights, pairs(shift))) <= 0)
            if found is None:
                none += 1
                continue
            self.assertEqual(found, (pairs(weights), pairs(shift)))
            self.assertIs(is_hold(book, found), True)
            for j, line in enumerate(hold_matrix(book, found)):
                self.assertTrue(all(entry[0] >= 0 for i, entry in enumerate(line) if i != j))
        self.assertGreater(none, 5)

    def test_new_lists(self):
        """[0.6] New lists at each call."""
        first = simple_hold(twin())
        first[0].clear()
        first[1][0] = None
        self.assertEqual(simple_hold(twin()), ([(2, 1), (3, 1)], [(2, 1), (1, 1)]))


class TestErrors(unittest.TestCase):
    def calls(self, hold):
        return [raised(hold_matrix, twin(), hold), raised(begin, twin(), hold), raised(norm, twin(), hold, [1, 1]),
                raised(share_bound, twin(), [3, 0], hold, 0, 0, 0), raised(within, twin(), [3, 0], hold, 0, 0, 1)]

    def wrong(self, hold, part):
        for found in self.calls(hold):
            self.assertEqual(found, ("InvalidHold", part))

    def test_form(self):
        """[10.3] A tuple of two lists with one entry for each kind."""
        for hold in no_lists() + [[], [[2, 3], [2, 1]], ([2, 3],), ([2, 3], [2, 1], [1, 1])]:
            self.wrong(hold, "form")
        for value in no_lists() + [[], [1], [1, 1, 1]]:
            self.wrong((value, [2, 1]), "form")
            self.wrong(([2, 3], value), "form")
            self.wrong(([0, -1], value), "form")

    def test_scale(self):
        """[10.3] Fractions above 0."""
        for value in no_fractions() + [0, -1, (0, 3), (-1, 5), -DIGITS_4000]:
            self.wrong(([value, 3], [2, 1]), "scale")
            self.wrong(([2, value], [None, 1]), "scale")

    def test_shift(self):
        """[10.3] Fractions."""
        for value in no_fractions():
            self.wrong(([2, 3], [value, 1]), "shift")
            self.wrong(([2, 3], [2, value]), "shift")

    def test_column(self):
        """[10.3] Not a hold for another reason."""
        for hold in (([2, 3], [0, 0]), ([1, 1], [pair(-TINY), 1]), ([1, 10 ** 50], [2, 3]), ([2, 3], [-2, 1])):
            self.wrong(hold, "column")

    def test_vectors(self):
        """[10.5] A list of as many fractions as kinds, checked after the hold."""
        for vector in no_lists() + [[], [1], [1, 1, 1]] + [[1, entry] for entry in no_fractions()]:
            self.assertEqual(raised(norm, twin(), HOLD, vector), ("InvalidBound", "vector"))
            self.assertEqual(raised(norm, twin(), ([2, 3], [0, 0]), vector), ("InvalidHold", "column"))

    def test_standings(self):
        """[4.1] [10.7] [10.8] Short standings only."""
        cases = [(counts, -1) for counts in no_lists() + [[], [1], [0, 0]]]
        cases += [([entry, 1], 0) for entry in [-1, 1000001, DIGITS_4000] + no_integers()]
        cases += [([3, entry], 1) for entry in [-1, 1000001, DIGITS_4000] + no_integers()]
        for counts, at in cases:
            self.assertEqual(raised(share_bound, twin(), counts, HOLD, 0, 0, 0), ("InvalidStanding", at))
            self.assertEqual(raised(within, twin(), counts, HOLD, 0, 0, 1), ("InvalidStanding", at))

    def test_kind_start_n_and_distance(self):
        """[10.7] [10.8] Wrong values at each place."""
        for value in [-1, 2, DIGITS_4000, -DIGITS_4000] + no_integers():
            self.assertEqual(raised(share_bound, twin(), [3, 0], HOLD, value, 0, 0), ("InvalidBound", "kind"))
            self.assertEqual(raised(within, twin(), [3, 0], HOLD, value, 0, 1), ("InvalidBound", "kind"))
        for value in [-1, 201, DIGITS_4000, -DIGITS_4000] + no_integers():
            self.assertEqual(raised(share_bound, twin(), [3, 0], HOLD, 0, value, 0), ("InvalidBound", "start"))
            self.assertEqual(raised(within, twin(), [3, 0], HOLD, 0, value, 1), ("InvalidBound", "start"))
        self.assertEqual(raised(share_bound, twin(), [30, 0], HOLD, 0, -1, 9), ("InvalidBound", "start"))
        self.assertEqual(raised(within, twin(), [30, 0], HOLD, 0, -1, 9), ("InvalidBound", "start"))
        for value in [-1, 3, -DIGITS_4000] + no_integers():
            self.assertEqual(raised(share_bound, twin(), [3, 0], HOLD, 0, 4, value), ("InvalidBound", "n"))
        for value in no_fractions():
            self.assertEqual(raised(within, twin(), [3, 0], HOLD, 0, 0, value), ("InvalidFraction", "distance"))
        for value in (0, -1, (0, 4), (-1, DIGITS_4000)):
            self.assertEqual(raised(within, twin(), [3, 0], HOLD, 0, 0, value), ("InvalidBound", "distance"))

    def test_sequence(self):
        """[0.8] [10.3] [10.7] [10.8] The errors come in the sequence of the parameters."""
        good = {"book": twin(), "counts": [3, 0], "hold": HOLD, "kind": 0, "start": 4}
        first = [
            ("counts", [0, 0], ("InvalidStanding", -1)),
            ("hold", ([2], [2, 1]), ("InvalidHold", "form")),
            ("hold", ([0, 3], [None, 1]), ("InvalidHold", "scale")),
            ("hold", ([2, 3], [None, 1]), ("InvalidHold", "shift")),
            ("hold", ([2, 3], [0, 0]), ("InvalidHold", "column")),
            ("kind", 2, ("InvalidBound", "kind")),
            ("start", True, ("InvalidBound", "start")),
        ]
        check_sequence(self, share_bound, dict(good, n=5), first + [("n", 3, ("InvalidBound", "n"))])
        distances = [("distance", "1", ("InvalidFraction", "distance")), ("distance", 0, ("InvalidBound", "distance"))]
        check_sequence(self, within, dict(good, distance=1), first + distances)
        self.assertEqual(raised(share_bound, twin(), [1, 0], HOLD, 0, 3, None), ("InvalidBound", "start"))


class TestCopies(unittest.TestCase):
    def test_what_is_passed_is_not_changed(self):
        """[0.6] Neither the hold nor any other list."""
        hold, counts, vector = ([2, (6, 2)], [(4, 2), 1]), [3, 0], [(-1, 2), 3]
        for call in (lambda: is_hold(twin(), hold), lambda: hold_matrix(twin(), hold), lambda: begin(twin(), hold),
                     lambda: norm(twin(), hold, vector), lambda: share_bound(twin(), counts, hold, 0, 0, 9),
                     lambda: within(twin(), counts, hold, 0, 0, (1, 9))):
            call()
        self.assertEqual([hold, counts, vector], [([2, (6, 2)], [(4, 2), 1]), [3, 0], [(-1, 2), 3]])

    def test_other_books(self):
        """[10.1] [10.3] A hold is checked against the book: its length, and its condition."""
        self.assertEqual(raised(begin, lone(), HOLD), ("InvalidHold", "form"))
        self.assertEqual([is_hold(book, HOLD) for book in books()[:2]], [True, is_hold(mixed(), HOLD)])


if __name__ == "__main__":
    unittest.main()
