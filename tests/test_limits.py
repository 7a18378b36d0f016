"""Section 8: shares, ends and limits, and which kinds are reached."""

import copy
import unittest
from fractions import Fraction
from itertools import combinations

from pageshares.books import Book
from pageshares.coming import chances, come, gaps
from pageshares.limits import ends, finals, groups, has_limit, is_limit, limit, reached, rest, shares
from pageshares.means import mean
from tests.bank import all_books, standings
from tests.common import (
    DIGITS_40, DIGITS_4000, lone, mixed, no_fractions, no_integers, no_lists, raised, six, twin,
)
from tests.exact import apply, dot, exact, exacts, matrix_of, null_vectors, pair, pairs, shifted


def apart():
    """Two kinds that never meet."""
    return Book([1, 1], [[(1, [2, 0])], [(1, [0, 2])]])


def halves():
    """The document's book whose kind 0 becomes pages of kind 1 or of kind 2."""
    half = [((1, 2), [0, 2, 0]), ((1, 2), [0, 0, 2])]
    return Book([1, 1, 1], [half, [(1, [0, 2, 0])], [(1, [0, 0, 2])]])


def one_page(book, kind):
    """The standing that is one page of the kind."""
    return [int(other == kind) for other in range(len(book))]


def leads(book):
    """For each kind the set of the kinds that some outcome of it has."""
    kinds = range(len(book))
    return [{j for _, outcome in book[i] for j in kinds if outcome[j] > 0} for i in kinds]


def reaches(book):
    """For each kind the set of the kinds that are reached from it: by paths of growing length."""
    after = leads(book)
    found = []
    for kind in range(len(book)):
        old, new = set(), {kind}
        while new - old:
            old, new = set(new), new | {j for i in new for j in after[i]}
        found.append(new)
    return found


def final_sets(book):
    """All sets of kinds from each of whose kinds exactly the kinds of the set are reached."""
    found, kinds = reaches(book), range(len(book))
    sets = [set(some) for many in range(1, len(book) + 1) for some in combinations(kinds, many)]
    return sorted(sorted(some) for some in sets if all(found[kind] == some for kind in some))


class TestShares(unittest.TestCase):
    def test_known_values(self):
        """[8.1] MEAN(n) divided by the gaps then."""
        self.assertEqual(shares(twin(), [1, 0], 3), [(1, 5), (1, 5)])
        self.assertEqual(shares(twin(), [1, 0], 0), [(1, 2), (0, 1)])
        self.assertEqual(shares(n=1, counts=[1, 1], book=mixed()), [(7, 18), (11, 36)])
        self.assertEqual(shares(lone(), [1000000], 200), [(1, 1)])

    def test_means_by_gaps(self):
        """[8.1] Each entry of the mean by t0 + n, up to n = 200."""
        for book in all_books():
            for counts in standings(len(book)) + [[1000000] * len(book)]:
                for n in (0, 1, 17, 200):
                    t = gaps(book, counts) + n
                    self.assertEqual(shares(book, counts, n), pairs([a / t for a in exacts(mean(book, counts, n))]))

    def test_they_settle_at_the_ends(self):
        """[8.1] After many comings the shares of these books are close to the ends."""
        for book in (twin(), mixed(), halves(), apart(), lone()):
            for counts in standings(len(book)):
                goal = exacts(ends(book, counts))
                for n, distance in ((20, Fraction(1, 5)), (200, Fraction(1, 20))):
                    found = exacts(shares(book, counts, n))
                    self.assertTrue(all(abs(a - b) < distance for a, b in zip(found, goal)), (counts, n))


class TestEnds(unittest.TestCase):
    def test_known_values(self):
        """[8.1] Limits that can be found by hand."""
        self.assertEqual(ends(twin(), [5, 0]), [(2, 7), (1, 7)])
        self.assertEqual(ends(halves(), [1, 0, 0]), [(0, 1), (1, 2), (1, 2)])
        self.assertEqual(ends(counts=[0, 1, 3], book=halves()), [(0, 1), (1, 4), (3, 4)])
        self.assertEqual(ends(apart(), [2, 3]), [(2, 5), (3, 5)])
        self.assertEqual(ends(lone(), [9]), [(1, 1)])
        self.assertEqual(ends(six(), [0, 0, 0, 0, 0, 1]), [(1, 1)] + [(0, 1)] * 5)

    def test_facts(self):
        """[8.2] A v = v, the weight of v is 1, and no entry is below 0."""
        for book in all_books():
            rows = matrix_of(book)
            for counts in standings(len(book)):
                found = exacts(ends(book, counts))
                self.assertEqual(apply(rows, found), found)
                self.assertEqual(dot(book.weights(), found), 1)
                self.assertGreaterEqual(min(found), 0)

    def test_by_the_pages(self):
        """[8.2] The ends of a standing are the mean of those of its pages, each as heavy as its gaps."""
        for book in all_books():
            of_page = [exacts(ends(book, one_page(book, kind))) for kind in range(len(book))]
            for counts in standings(len(book)):
                t = gaps(book, counts)
                parts = [Fraction(w * x, t) for w, x in zip(book.weights(), counts)]
                expected = [dot(parts, entries) for entries in zip(*of_page)]
                self.assertEqual(ends(book, counts), pairs(expected))

    def test_what_comes_next_does_not_change_them_in_the_mean(self):
        """[8.1] The ends are the mean of the ends after one coming, since the shares later are."""
        for book in all_books():
            for counts in standings(len(book)):
                after = [0] * len(book)
                for kind, number, chance in chances(book, counts):
                    found = exacts(ends(book, come(book, counts, kind, number)))
                    after = [a + exact(chance) * b for a, b in zip(after, found)]
                self.assertEqual(ends(book, counts), pairs(after))

    def test_a_standing_that_is_settled_stays(self):
        """[8.1] If A v = v, the shares of the standing v are the same for all n, so they are its ends."""
        tried = 0
        for book in all_books():
            for vector in null_vectors(shifted(matrix_of(book), 1)):
                scale = 1
                for entry in vector:
                    scale *= entry.denominator
                counts = [int(entry * scale) for entry in vector]
                if min(counts) >= 0:
                    t = gaps(book, counts)
                    self.assertEqual(ends(book, counts), pairs([Fraction(count, t) for count in counts]))
                    tried += 1
        self.assertGreater(tried, len(all_books()))

    def test_long_integers(self):
        """[0.4] [8.1] The entries of the standing may have 4,000 digits."""
        t = 5 * DIGITS_4000 + 9
        expected = [(0, 1), pair(Fraction(3 * DIGITS_4000 + 5, t)), pair(Fraction(2 * DIGITS_4000 + 4, t))]
        self.assertEqual(ends(halves(), [2 * DIGITS_4000, 2 * DIGITS_4000 + 5, DIGITS_4000 + 4]), expected)
        for book in all_books():
            counts = [DIGITS_4000 + k for k in range(len(book))]
            self.assertEqual(dot(book.weights(), exacts(ends(book, counts))), 1)
        self.assertEqual(ends(six(), [10 ** 4000 - 1] * 6), [(1, 1)] + [(0, 1)] * 5)

    def test_where_they_are_above_0(self):
        """[8.6] At the kinds of the final sets that are reached from a kind with a page, and nowhere else."""
        for book in all_books():
            found = reaches(book)
            for counts in standings(len(book)):
                there = [kind for kind, count in enumerate(counts) if count > 0]
                kinds = {k for some in final_sets(book) for k in some if any(k in found[kind] for kind in there)}
                self.assertEqual({k for k, entry in enumerate(ends(book, counts)) if entry != (0, 1)}, kinds)


class TestLimit(unittest.TestCase):
    def test_known_values(self):
        """[8.3] Limits that can be found by hand."""
        self.assertEqual(limit(twin()), [(2, 7), (1, 7)])
        self.assertEqual(limit(book=mixed()), [(3, 7), (2, 7)])
        self.assertEqual(limit(lone()), [(1, 1)])
        self.assertEqual([has_limit(book=apart()), has_limit(halves()), has_limit(six())], [False, False, True])

    def test_no_limit(self):
        """[8.3] The pair is the least one of two kinds that end differently."""
        self.assertEqual(raised(limit, apart()), ("NoLimit", (0, 1)))
        self.assertEqual(raised(limit, halves()), ("NoLimit", (0, 1)))
        late = Book([1, 1, 1, 1], [[(1, [1, 1, 0, 0])], [(1, [0, 2, 0, 0])], [(1, [1, 0, 1, 0])], [(1, [0, 0, 0, 2])]])
        self.assertEqual(raised(limit, late), ("NoLimit", (0, 3)))
        middle = late.renamed([0, 1, 3, 2])
        self.assertEqual(raised(limit, middle), ("NoLimit", (0, 2)))

    def test_against_the_ends(self):
        """[8.3] A book has a limit if all pages have the same ends; otherwise the least pair is told."""
        seen = {True: 0, False: 0}
        for book in all_books():
            kinds = range(len(book))
            of_page = [ends(book, one_page(book, kind)) for kind in kinds]
            unlike = [(i, j) for i in kinds for j in kinds if i < j and of_page[i] != of_page[j]]
            seen[not unlike] += 1
            self.assertIs(has_limit(book), not unlike)
            if unlike:
                self.assertEqual(raised(limit, book), ("NoLimit", min(unlike)))
            else:
                self.assertEqual(limit(book), of_page[0])
                for counts in standings(len(book)):
                    self.assertEqual(ends(book, counts), limit(book))
        self.assertGreater(min(seen.values()), 10)

    def test_a_limit_is_one_final_set(self):
        """[8.6] That is, some kind is reached from every kind."""
        for book in all_books():
            self.assertIs(has_limit(book), len(final_sets(book)) == 1)
            found = reaches(book)
            self.assertIs(has_limit(book), any(all(k in some for some in found) for k in range(len(book))))


class TestIsLimit(unittest.TestCase):
    def test_limits_and_others(self):
        """[8.3] Fractions are compared by their values."""
        for book in all_books():
            if has_limit(book):
                found = limit(book)
                self.assertIs(is_limit(book, found), True)
                self.assertIs(is_limit(book, [(3 * p, 3 * q) for p, q in found]), True)
                for kind in range(len(book)):
                    other = list(found)
                    other[kind] = pair(exact(other[kind]) + Fraction(1, DIGITS_40))
                    self.assertIs(is_limit(book, other), False)
        self.assertIs(is_limit(value=[1], book=lone()), True)
        self.assertIs(is_limit(lone(), [(5, 5)]), True)
        self.assertIs(is_limit(six(), [1, 0, 0, (0, 7), 0, 0]), True)

    def test_without_a_limit(self):
        """[8.3] No value is the limit of a book that has none."""
        for book in all_books():
            if not has_limit(book):
                for counts in standings(len(book)):
                    self.assertIs(is_limit(book, ends(book, counts)), False)

    def test_any_value(self):
        """[0.9] [8.3] What is no list of fractions, one for each kind, is not the limit."""
        for value in no_lists() + no_fractions() + [[], [(2, 7)], [(2, 7), (1, 7), (0, 1)], ((2, 7), (1, 7))]:
            with self.subTest(repr(value)[:60]):
                self.assertIs(is_limit(twin(), value), False)
                self.assertIs(is_limit(apart(), value), False)
        for value in no_fractions():
            with self.subTest(repr(value)[:60]):
                self.assertIs(is_limit(twin(), [value, (1, 7)]), False)
                self.assertIs(is_limit(twin(), [(2, 7), value]), False)
        for value in (True, 1.0, "1", [1], (1, 1, 1)):
            self.assertIs(is_limit(lone(), [value]), False)


class TestGroups(unittest.TestCase):
    def test_known_values(self):
        """[8.4] The kinds that end alike."""
        self.assertEqual(groups(halves()), [[0], [1], [2]])
        self.assertEqual(groups(book=twin()), [[0, 1]])
        self.assertEqual(groups(lone()), [[0]])
        self.assertEqual(groups(six()), [[0, 1, 2, 3, 4, 5]])
        # Kinds 0 and 2 end as kind 3 does, kind 4 as kind 1, and kind 5 half as the one, half as the other.
        rules = [[0, 0, 0, 2, 0, 0], [0, 2, 0, 0, 0, 0], [1, 0, 1, 0, 0, 0], [0, 0, 0, 2, 0, 0], [0, 1, 0, 0, 1, 0]]
        last = [((1, 2), [0, 0, 0, 1, 0, 1]), ((1, 2), [0, 1, 0, 0, 0, 1])]
        book = Book([1] * 6, [[(1, outcome)] for outcome in rules] + [last])
        self.assertEqual(groups(book), [[0, 2, 3], [1, 4], [5]])

    def test_against_the_ends(self):
        """[8.4] In the same list exactly if they end alike; everything ascending."""
        for book in all_books():
            kinds = range(len(book))
            of_page = [ends(book, one_page(book, kind)) for kind in kinds]
            expected = sorted({tuple(j for j in kinds if of_page[j] == of_page[i]) for i in kinds})
            self.assertEqual(groups(book), [list(some) for some in expected])
            self.assertEqual(len(groups(book)) == 1, has_limit(book))


class TestReached(unittest.TestCase):
    def test_known_values(self):
        """[8.5] The kind itself, and what its outcomes lead to, even with a small chance only."""
        self.assertEqual([reached(twin(), 0), reached(kind=1, book=twin())], [[0, 1], [0, 1]])
        self.assertEqual([reached(halves(), kind) for kind in range(3)], [[0, 1, 2], [1], [2]])
        self.assertEqual(reached(lone(), 0), [0])
        self.assertEqual([reached(six(), 1), reached(six(), 5)], [[0, 1], [0, 1, 3, 4, 5]])
        chain = Book([1] * 6, [[(1, [int(j == k or j == min(k + 1, 5)) + int(k == 5 == j) for j in range(6)])]
                               for k in range(6)])
        self.assertEqual([reached(chain, kind) for kind in range(6)], [list(range(kind, 6)) for kind in range(6)])
        back = chain.renamed([5, 4, 3, 2, 1, 0])
        self.assertEqual([reached(back, kind) for kind in range(6)], [list(range(kind + 1)) for kind in range(6)])
        gone = Book([1, 1, 1], [[(1, [0, 2, 0])], [(1, [0, 0, 2])], [(1, [0, 0, 2])]])
        self.assertEqual([reached(gone, kind) for kind in range(3)], [[0, 1, 2], [1, 2], [2]])

    def test_against_paths(self):
        """[8.5] By chains of kinds."""
        for book in all_books():
            found = reaches(book)
            self.assertEqual([reached(book, kind) for kind in range(len(book))], [sorted(some) for some in found])

    def test_wrong_kind(self):
        """[0.9] [8.5] The kind may be any value."""
        for value in [-1, 2, DIGITS_40, DIGITS_4000, -DIGITS_4000] + no_integers():
            with self.subTest(repr(value)[:60]):
                self.assertEqual(raised(reached, twin(), value), ("InvalidBound", "kind"))
        self.assertEqual(raised(reached, lone(), 1), ("InvalidBound", "kind"))


class TestFinals(unittest.TestCase):
    def test_known_values(self):
        """[8.5] The final sets, in ascending order."""
        self.assertEqual(finals(halves()), [[1], [2]])
        self.assertEqual(finals(book=twin()), [[0, 1]])
        self.assertEqual(finals(six()), [[0]])
        self.assertEqual(finals(apart()), [[0], [1]])
        self.assertEqual(finals(lone()), [[0]])
        rules = [[0, 0, 0, 2], [0, 0, 2, 0], [1, 1, 0, 0], [2, 0, 0, 0]]
        crossed = Book([1] * 4, [[(1, outcome)] for outcome in rules])
        self.assertEqual(finals(crossed), [[0, 3]])
        apart_twice = crossed.with_lottery(2, [(1, [0, 2, 0, 0])])
        self.assertEqual(finals(apart_twice), [[0, 3], [1, 2]])

    def test_against_the_definition(self):
        """[8.5] [8.6] Exactly the sets of the definition; at least one, and no kind in two of them."""
        for book in all_books():
            found = finals(book)
            self.assertEqual(found, final_sets(book))
            kinds = [kind for some in found for kind in some]
            self.assertGreaterEqual(len(found), 1)
            self.assertEqual(len(kinds), len(set(kinds)))

    def test_dimensions(self):
        """[8.6] The vectors v with A v = v have as many dimensions as there are final sets."""
        for book in all_books():
            self.assertEqual(len(null_vectors(shifted(matrix_of(book), 1))), len(finals(book)))


class TestRest(unittest.TestCase):
    def test_known_values(self):
        """[8.7] MEAN(n) minus the gaps then times the ends."""
        self.assertEqual(rest(twin(), [1, 0], 0), [(3, 7), (-2, 7)])
        self.assertEqual(rest(n=4, counts=[1, 0], book=twin()), [(3, 35), (-2, 35)])
        self.assertEqual(rest(twin(), [1, 0], 5), [(0, 1), (0, 1)])
        self.assertEqual(rest(lone(), [1000000], 200), [(0, 1)])

    def test_definition(self):
        """[8.7] Up to n = 200, also from the greatest short standing."""
        for book in all_books():
            for counts in standings(len(book))[-3:] + [[1000000] * len(book)]:
                goal = exacts(ends(book, counts))
                for n in (0, 1, 13, 200):
                    t = gaps(book, counts) + n
                    expected = [a - t * b for a, b in zip(exacts(mean(book, counts, n)), goal)]
                    self.assertEqual(rest(book, counts, n), pairs(expected))

    def test_facts(self):
        """[8.7] The rest after one more coming is r + A r / t, and its weight is 0."""
        for book in all_books():
            rows = matrix_of(book)
            for counts in standings(len(book)):
                t = gaps(book, counts)
                for n in (0, 1, 2, 30):
                    found = exacts(rest(book, counts, n))
                    grown = [a + b / (t + n) for a, b in zip(found, apply(rows, found))]
                    self.assertEqual(rest(book, counts, n + 1), pairs(grown))
                    self.assertEqual(dot(book.weights(), found), 0)


class TestErrors(unittest.TestCase):
    def test_short_standings(self):
        """[4.1] [8.1] [8.7] An entry above 1,000,000 is wrong in shares and rest."""
        for call in (shares, rest):
            for counts in no_lists() + [[], [1], [1, 1, 1], [0, 0]]:
                self.assertEqual(raised(call, twin(), counts, 4), ("InvalidStanding", -1))
            for entry in [-1, 1000001, DIGITS_40, DIGITS_4000, -DIGITS_4000] + no_integers():
                self.assertEqual(raised(call, twin(), [entry, -1], 4), ("InvalidStanding", 0))
                self.assertEqual(raised(call, twin(), [0, entry], 4), ("InvalidStanding", 1))

    def test_n(self):
        """[8.1] [8.7] n is an integer from 0 to 200; the standing is checked before it."""
        for call in (shares, rest):
            for n in [-1, 201, DIGITS_40, DIGITS_4000, -DIGITS_4000] + no_integers():
                with self.subTest(call=call.__name__, n=repr(n)[:60]):
                    self.assertEqual(raised(call, twin(), [1, 0], n), ("InvalidBound", "n"))
                    self.assertEqual(raised(call, apart(), [1, 0], n), ("InvalidBound", "n"))
                    self.assertEqual(raised(call, twin(), [1, 1000001], n), ("InvalidStanding", 1))

    def test_standings(self):
        """[4.1] [8.1] The standing of `ends` need not be short."""
        for counts in no_lists() + [[], [1], [1, 1, 1], [0, 0]]:
            self.assertEqual(raised(ends, twin(), counts), ("InvalidStanding", -1))
        for entry in [-1, -DIGITS_40, -DIGITS_4000] + no_integers():
            self.assertEqual(raised(ends, twin(), [entry, -1]), ("InvalidStanding", 0))
            self.assertEqual(raised(ends, twin(), [0, entry]), ("InvalidStanding", 1))
        self.assertEqual(ends(twin(), [1000001, DIGITS_4000]), limit(twin()))


class TestCopies(unittest.TestCase):
    def test_what_is_passed_is_not_changed(self):
        """[0.6] [0.11] No list that is passed is changed, and no book."""
        counts, value, book = [1, 1], [(4, 14), (1, 7)], twin()
        for call in (shares, rest):
            call(book, counts, 3)
            raised(call, book, counts, 201)
        ends(book, counts)
        is_limit(book, value)
        self.assertEqual([counts, value, book == twin()], [[1, 1], [(4, 14), (1, 7)], True])

    def test_returned_lists_are_new(self):
        """[0.6] Each returned list is a new one at each call, and so is each list inside it."""
        book = halves()
        calls = [
            lambda: shares(book, [1, 1, 1], 3), lambda: rest(book, [1, 1, 1], 3), lambda: ends(book, [0, 1, 0]),
            lambda: limit(twin()), lambda: groups(book), lambda: finals(book), lambda: reached(book, 0),
            lambda: groups(twin()), lambda: finals(twin()),
        ]
        for call in calls:
            first, second = call(), call()
            kept = copy.deepcopy(second)
            for entry in first:
                if isinstance(entry, list):
                    entry.append(None)
            first.append(None)
            first[0] = None
            self.assertEqual([second, call()], [kept, kept])


if __name__ == "__main__":
    unittest.main()
