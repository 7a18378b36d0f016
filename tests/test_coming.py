"""Section 4: standings and comings."""

import copy
import unittest
from fractions import Fraction

from pageshares.books import Book
from pageshares.checks import checked_short_standing
from pageshares.coming import chances, come, gaps, row
from tests.common import (
    DIGITS_40, DIGITS_4000, books, lone, mixed, no_integers, no_lists, raised, six, twin,
)


def calls(book):
    """The functions that take a standing, as functions of the standing alone."""
    return [
        lambda counts: gaps(book, counts),
        lambda counts: come(book, counts, 0, 0),
        lambda counts: chances(book, counts),
        lambda counts: list(row(book, counts, [])),
    ]


def standings(many):
    """Standings of so many kinds, with empty kinds and long integers."""
    ones = [[1 if j == k else 0 for j in range(many)] for k in range(many)]
    return ones + [[1] * many, list(range(1, many + 1)), [DIGITS_40] * many, [DIGITS_4000 + k for k in range(many)]]


def walk(book, counts, many):
    """A row of picks: each one takes the last outcome of the next kind, in turn, that has a page."""
    picks, standing = [], list(counts)
    for step in range(many):
        there = [kind for kind, count in enumerate(standing) if count > 0]
        kind = there[step % len(there)]
        picks.append((kind, len(book[kind]) - 1))
        standing = come(book, standing, *picks[-1])
    return picks


class TestStanding(unittest.TestCase):
    def wrong(self, counts, at):
        for call in calls(twin()):
            self.assertEqual(raised(call, counts), ("InvalidStanding", at))
        self.assertEqual(raised(checked_short_standing, twin(), counts), ("InvalidStanding", at))

    def test_no_list_of_that_length(self):
        """[4.1] [0.9] A standing is a list with an entry for each kind."""
        for value in no_lists() + [[], [1], [1, 1, 1], [None] * 3]:
            with self.subTest(repr(value)[:60]):
                self.wrong(value, -1)

    def test_wrong_entries(self):
        """[4.1] The first entry that is not an integer of at least 0."""
        for value in [-1, -DIGITS_40, -DIGITS_4000] + no_integers():
            with self.subTest(repr(value)[:60]):
                self.wrong([value, 1], 0)
                self.wrong([1, value], 1)
                self.wrong([0, value], 1)
                self.wrong([value, value], 0)

    def test_zeros(self):
        """[4.1] A standing has at least one page."""
        self.wrong([0, 0], -1)
        self.assertEqual(raised(gaps, lone(), [0]), ("InvalidStanding", -1))

    def test_good_ones(self):
        """[4.1] [0.4] One page is enough, and there may be very many."""
        for book in books():
            for counts in standings(len(book)):
                self.assertEqual(gaps(book, counts), sum(w * c for w, c in zip(book.weights(), counts)))

    def test_short_standing(self):
        """[4.1] In a short standing an entry above 1,000,000 is a wrong entry too."""
        for counts in ([1000000, 0], [0, 1000000], [1000000, 1000000], [0, 1]):
            self.assertEqual(checked_short_standing(twin(), counts), counts)
            self.assertIsNot(checked_short_standing(twin(), counts), counts)
        for entry in (1000001, DIGITS_40, DIGITS_4000):
            self.assertEqual(raised(checked_short_standing, twin(), [entry, None]), ("InvalidStanding", 0))
            self.assertEqual(raised(checked_short_standing, twin(), [0, entry]), ("InvalidStanding", 1))


class TestGaps(unittest.TestCase):
    def test_gaps(self):
        """[4.2] The sum of weight times number."""
        self.assertEqual(gaps(twin(), [4, 5]), 23)
        self.assertEqual(gaps(six(), [1, 1, 1, 1, 1, 1]), 27)
        self.assertEqual(gaps(six(), [0, 0, 0, 0, 0, DIGITS_4000]), 12 * DIGITS_4000)
        self.assertEqual(gaps(counts=[1, 0], book=twin()), 2)


class TestCome(unittest.TestCase):
    def test_takes_one_page_and_puts_the_outcome(self):
        """[4.3] The outcome takes the place of one page of the kind."""
        self.assertEqual(come(twin(), [1, 0], 0, 0), [0, 1])
        self.assertEqual(come(twin(), [0, 1], 1, 0), [2, 0])
        self.assertEqual(come(mixed(), [1, 1], 0, 0), [0, 2])
        self.assertEqual(come(mixed(), [1, 1], 0, 1), [2, 1])
        self.assertEqual(come(six(), [1, 1, 1, 1, 1, 1], 5, 3), [14, 1, 1, 1, 1, 0])
        self.assertEqual(come(lone(), [DIGITS_4000], 0, 0), [DIGITS_4000 + 1])
        self.assertEqual(come(number=1, kind=0, counts=[1, 1], book=mixed()), [2, 1])

    def test_the_number_is_that_of_the_ascending_lottery(self):
        """[3.5] [4.3] The number of an outcome is its index in book[kind]."""
        for book in books():
            for counts in standings(len(book)):
                for kind, count in enumerate(counts):
                    for number, (_, outcome) in enumerate(book[kind]):
                        expected = [a + b - (k == kind) for k, (a, b) in enumerate(zip(counts, outcome))]
                        if count > 0:
                            self.assertEqual(come(book, counts, kind, number), expected)
                            self.assertEqual(gaps(book, expected), gaps(book, counts) + 1)
                        else:
                            self.assertEqual(raised(come, book, counts, kind, number), ("InvalidCall", "kind"))

    def test_wrong_kind_and_number(self):
        """[4.3] [0.9] The kind and the number may be any values."""
        for value in [-1, 2, DIGITS_40, DIGITS_4000, -DIGITS_4000] + no_integers():
            with self.subTest(repr(value)[:60]):
                self.assertEqual(raised(come, mixed(), [1, 1], value, 0), ("InvalidBound", "kind"))
                self.assertEqual(raised(come, mixed(), [1, 1], 0, value), ("InvalidBound", "number"))
        self.assertEqual(raised(come, mixed(), [1, 1], 1, 1), ("InvalidBound", "number"))

    def test_sequence_of_the_errors(self):
        """[4.3] [0.8] The standing, the kind, the number, then whether there is a page."""
        self.assertEqual(raised(come, mixed(), [0, 0], 9, 9), ("InvalidStanding", -1))
        self.assertEqual(raised(come, mixed(), [0, -1], 9, 9), ("InvalidStanding", 1))
        self.assertEqual(raised(come, mixed(), [0, 1], 9, 9), ("InvalidBound", "kind"))
        self.assertEqual(raised(come, mixed(), [0, 1], 0, 2), ("InvalidBound", "number"))
        self.assertEqual(raised(come, mixed(), [0, 1], 0, 1), ("InvalidCall", "kind"))
        self.assertEqual(raised(come, mixed(), [1, 0], 1, 1), ("InvalidBound", "number"))
        self.assertEqual(raised(come, mixed(), [1, 0], 1, 0), ("InvalidCall", "kind"))


class TestChances(unittest.TestCase):
    def test_known_values(self):
        """[4.4] One tuple for each kind with a page and each outcome, ascending."""
        expected = [(0, 0, (2, 9)), (0, 1, (1, 9)), (1, 0, (2, 3))]
        self.assertEqual(chances(counts=[1, 1], book=mixed()), expected)
        self.assertEqual(chances(mixed(), [0, 3]), [(1, 0, (1, 1))])
        self.assertEqual(chances(mixed(), [3, 0]), [(0, 0, (2, 3)), (0, 1, (1, 3))])
        self.assertEqual(chances(lone(), [DIGITS_4000]), [(0, 0, (1, 1))])

    def test_each_chance_and_their_sum(self):
        """[4.3] [4.4] Weight times number over t, times the chance in the lottery; the sum is 1."""
        for book in books():
            for counts in standings(len(book)):
                expected = []
                for kind, count in enumerate(counts):
                    met = Fraction(book.weights()[kind] * count, gaps(book, counts))
                    for number, (chance, _) in enumerate(book[kind]):
                        whole = met * Fraction(*chance)
                        if count > 0:
                            expected.append((kind, number, (whole.numerator, whole.denominator)))
                found = chances(book, counts)
                self.assertEqual(found, expected)
                self.assertEqual(sum(Fraction(*entry[2]) for entry in found), 1)
                self.assertEqual([type(found), type(found[0]), type(found[0][2])], [list, tuple, tuple])


class TestRow(unittest.TestCase):
    def test_known_values(self):
        """[4.5] The standing after each pick."""
        self.assertEqual(list(row(twin(), [1, 0], [(0, 0), (1, 0)])), [[0, 1], [2, 0]])
        self.assertEqual(list(row(picks=[(0, 1)], counts=[1, 1], book=mixed())), [[2, 1]])
        self.assertEqual(list(row(twin(), [1, 0], [])), [])

    def test_it_is_a_generator(self):
        """[4.5] The items come one after another."""
        it = row(twin(), [1, 0], [(0, 0), (1, 0)])
        self.assertIs(iter(it), it)
        self.assertEqual([next(it), next(it), next(it, None)], [[0, 1], [2, 0], None])

    def test_each_pick_is_done_at_the_standing_before_it(self):
        """[4.5] As come does, one after another."""
        for book in books():
            for counts in standings(len(book)):
                picks, standing = walk(book, counts, 12), list(counts)
                found = list(row(book, counts, picks))
                self.assertEqual(len(found), 12)
                for pick, after in zip(picks, found):
                    standing = come(book, standing, *pick)
                    self.assertEqual(after, standing)

    def test_1000_and_1001_picks(self):
        """[4.5] A row has at most 1,000 picks."""
        picks = walk(mixed(), [1, 1], 1001)
        found = list(row(mixed(), [1, 1], picks[:1000]))
        self.assertEqual([len(found), gaps(mixed(), found[-1])], [1000, 1003])
        self.assertEqual(raised(lambda: list(row(mixed(), [1, 1], picks))), ("InvalidRow", -1))
        self.assertEqual(raised(lambda: list(row(mixed(), [1, 1], [None] * 1001))), ("InvalidRow", -1))
        self.assertEqual(raised(lambda: list(row(mixed(), [1, 1], picks[:999] + [None]))), ("InvalidRow", 999))

    def test_no_list(self):
        """[4.5] [0.9] The picks may be any value."""
        for value in no_lists():
            with self.subTest(repr(value)[:60]):
                self.assertEqual(raised(lambda: list(row(twin(), [1, 0], value))), ("InvalidRow", -1))

    def test_wrong_entries(self):
        """[4.5] The first entry that is no tuple of two values or that cannot come."""
        good = [(0, 0), (1, 0)]
        wrong = no_integers() + [0, [0, 0], (0, 0, 0), (-1, 0), (2, 0), (0, 1), (0, -1), (1, 0), (DIGITS_4000, 0)]
        for value in wrong + [(value, 0) for value in no_integers()] + [(0, value) for value in no_integers()]:
            with self.subTest(repr(value)[:60]):
                for before in ([], good, good + good):
                    picks = before + [value, None]
                    expected = ("InvalidRow", len(before))
                    self.assertEqual(raised(lambda: list(row(twin(), [1, 0], picks))), expected)

    def test_what_an_earlier_pick_leaves_decides(self):
        """[4.5] A pick that can come at first may not come later, and the other way round."""
        self.assertEqual(raised(lambda: list(row(twin(), [1, 0], [(0, 0), (0, 0)]))), ("InvalidRow", 1))
        self.assertEqual(raised(lambda: list(row(twin(), [1, 0], [(1, 0), (0, 0)]))), ("InvalidRow", 0))
        self.assertEqual(list(row(twin(), [1, 0], [(0, 0), (1, 0), (0, 0)])), [[0, 1], [2, 0], [1, 1]])

    def test_sequence_of_the_errors(self):
        """[4.5] [0.8] The standing, the list, then its entries."""
        self.assertEqual(raised(lambda: list(row(twin(), [0, 0], None))), ("InvalidStanding", -1))
        self.assertEqual(raised(lambda: list(row(twin(), [1, -1], [None]))), ("InvalidStanding", 1))
        self.assertEqual(raised(lambda: list(row(twin(), [1, 0], [(0, 0), None, (9, 9)]))), ("InvalidRow", 1))

    def test_the_error_comes_with_the_first_item(self):
        """[0.12] The error of an argument is raised at the latest when the first item is requested."""
        late = [(0, 0), (1, 0), None]
        for counts, picks, error in (
                ([0, 0], [(0, 0)], ("InvalidStanding", -1)), ([1, 0], None, ("InvalidRow", -1)),
                ([1, 0], late, ("InvalidRow", 2))):
            self.assertEqual(raised(lambda: next(row(twin(), counts, picks))), error)

    def test_several_under_way(self):
        """[0.12] Calls that are under way at the same time do not influence one another."""
        book, picks = mixed(), walk(mixed(), [2, 2], 20)
        expected = list(row(book, [2, 2], picks))
        other_picks = walk(twin(), [1, 4], 20)
        other_expected = list(row(twin(), [1, 4], other_picks))
        first, second, third = row(book, [2, 2], picks), row(book, [2, 2], picks), row(twin(), [1, 4], other_picks)
        started = [next(first), next(first), next(first)]
        self.assertEqual(started, expected[:3])
        for k in range(17):
            self.assertEqual(next(second), expected[k])
            self.assertEqual(next(third), other_expected[k])
            self.assertEqual(next(first), expected[k + 3])
        self.assertEqual(next(first, None), None)
        self.assertEqual([list(second), list(third)], [expected[17:], other_expected[17:]])


class TestCopies(unittest.TestCase):
    def test_what_is_passed_is_not_changed(self):
        """[0.6] [0.11] No list that is passed is changed, also not by a call that raises an error."""
        counts, picks = [1, 1], [(0, 1), (0, 0), (1, 0)]
        gaps(mixed(), counts)
        come(mixed(), counts, 0, 1)
        chances(mixed(), counts)
        list(row(mixed(), counts, picks))
        raised(come, mixed(), counts, 0, 7)
        raised(lambda: list(row(mixed(), counts, picks + [None])))
        self.assertEqual([counts, picks], [[1, 1], [(0, 1), (0, 0), (1, 0)]])

    def test_returned_lists_are_new(self):
        """[0.6] Each returned list is a new one at each call."""
        counts, book = [1, 1], mixed()
        for call in (lambda: come(book, counts, 0, 1), lambda: chances(book, counts)):
            first, second = call(), call()
            kept = copy.deepcopy(second)
            first[0] = None
            first.append(None)
            self.assertEqual([second, call(), counts], [kept, kept, [1, 1]])
            self.assertEqual(book, mixed())

    def test_yielded_lists_are_new(self):
        """[0.6] A change of a yielded standing does not reach the next ones."""
        counts, picks = [2, 2], walk(mixed(), [2, 2], 10)
        expected = list(row(mixed(), counts, picks))
        found = []
        for after in row(mixed(), counts, picks):
            found.append(list(after))
            after[0] = -5
            after.clear()
        self.assertEqual(found, expected)

    def test_changes_of_passed_lists_after_the_first_item(self):
        """[0.6] [0.12] Later changes of what was passed have no effect."""
        counts, picks = [2, 2], walk(mixed(), [2, 2], 10)
        expected = list(row(mixed(), counts, picks))
        it = row(mixed(), counts, picks)
        first = next(it)
        counts[0] = 0
        picks[5] = None
        picks.pop()
        self.assertEqual([first] + list(it), expected)

    def test_books_do_not_change(self):
        """[0.7] No function changes the book."""
        book = Book([1, 2], [[((1, 3), [2, 0]), ((2, 3), [0, 1])], [(1, [1, 1])]])
        for call in calls(book):
            call([3, 4])
        self.assertEqual(book, mixed())


if __name__ == "__main__":
    unittest.main()
