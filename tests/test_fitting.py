"""Points 10.10 to 10.12: a hold of a given scale, or a refusal."""

import copy
import unittest
from fractions import Fraction

from pageshares.books import Book
from pageshares.fitting import fitted_hold, is_refusal
from pageshares.holds import is_hold, simple_hold
from pageshares.limits import has_limit
from tests.bank import all_books
from tests.common import (
    DIGITS_40, DIGITS_4000, books, check_sequence, lone, mixed, no_fractions, no_integers, no_lists, raised, six, twin,
)
from tests.exact import exact, exact_rows, exacts, matrix_of, pair

TINY = Fraction(1, 10 ** 60)

# The number of a book in the bank and of a kind, and the entry of this kind, beside entries of 1, for which there is
# just a hold: on one side of it there are holds, on the other one there are none.
EDGES = [
    (4, 0, Fraction(62, 23)), (4, 1, Fraction(83, 22)), (6, 3, Fraction(4, 7)), (7, 2, Fraction(13, 5)),
    (11, 4, Fraction(1, 9)), (12, 3, Fraction(1)), (21, 0, Fraction(31, 169)), (21, 1, Fraction(200, 131)),
    (26, 2, Fraction(227, 99)), (33, 5, Fraction(5)),
]


def apart():
    """Two kinds that never meet."""
    return Book([1, 1], [[(1, [2, 0])], [(1, [0, 2])]])


def scales(book):
    """Scales of many forms for the book."""
    many = len(book)
    return [
        book.weights(),
        [1] * many,
        [k + 1 for k in range(many)],
        [(1, 2 * k + 3) for k in range(many)],
        [10 ** (7 * (k % 3)) for k in range(many)],
        [(3 * k + 1, 10 ** k) for k in range(many)],
        [(6, 4 * (many - k)) for k in range(many)],
    ]


def refuses(book, scale, rows):
    """The three conditions of point [10.10]."""
    kinds, weights, sizes, matrix = range(len(book)), book.weights(), exacts(scale), matrix_of(book)
    ruled = all(rows[i][i] >= abs(rows[j][i]) for i in kinds for j in kinds)
    flat = all(sum(weights[i] * rows[j][i] for i in kinds) == 0 for j in kinds)
    return ruled and flat and sum(sizes[j] * rows[j][i] * matrix[j][i] for j in kinds for i in kinds) > 0


class TestFittedHold(unittest.TestCase):
    def check(self, book, scale):
        """The word and the list that it comes with, which has to show that the word is right."""
        found = fitted_hold(book, scale)
        self.assertEqual([type(found), len(found), type(found[1])], [tuple, 2, list])
        if found[0] == "hold":
            self.assertIs(is_hold(book, (scale, found[1])), True)
            entries = found[1]
        else:
            self.assertEqual(found[0], "none")
            self.assertIs(is_refusal(book, scale, found[1]), True)
            self.assertTrue(refuses(book, scale, exact_rows(found[1])))
            entries = [entry for line in found[1] for entry in line]
        for entry in entries:
            self.assertEqual([type(entry), entry], [tuple, pair(exact(entry))])
        return found[0]

    def test_all_books(self):
        """[10.10] [10.11] A hold or a refusal, for every book and many scales."""
        words = [self.check(book, scale) for book in all_books() for scale in scales(book)]
        self.assertGreater(words.count("hold"), 50)
        self.assertGreater(words.count("none"), 50)

    def test_known_values(self):
        """[10.11] Scales for which it is known which one there is."""
        self.assertEqual(fitted_hold(apart(), [1, 5])[0], "none")
        self.assertEqual(fitted_hold(twin(), [2, 3])[0], "hold")
        self.assertEqual(fitted_hold(scale=[2, 3], book=twin())[0], "hold")

    def test_one_kind(self):
        """[10.11] The book of one kind has a hold for each scale."""
        for scale in ([1], [(1, DIGITS_4000)], [DIGITS_40], [(4, 6)]):
            self.assertEqual(self.check(lone(), scale), "hold")

    def test_six_kinds(self):
        """[10.11] Six kinds."""
        for scale in scales(six()) + [[(k + 1, 60 - k * k) for k in range(6)]]:
            self.check(six(), scale)

    def test_books_without_a_limit(self):
        """[10.6] [10.11] They have a refusal for every scale."""
        for book in all_books():
            if not has_limit(book):
                self.assertEqual({self.check(book, scale) for scale in scales(book)}, {"none"})

    def test_simple_holds(self):
        """[10.9] [10.12] Where the simple hold is one, the weights are a scale without a refusal."""
        for book in all_books():
            if simple_hold(book) is not None:
                self.assertEqual(self.check(book, book.weights()), "hold")

    def test_the_edge_between_both(self):
        """[10.12] Scales for which the conditions can just be met, and scales a little beside them."""
        found = all_books()
        for number, place, edge in EDGES:
            book = found[number]
            words = []
            for step in (Fraction(0), TINY, -TINY):
                scale = [1] * len(book)
                scale[place] = pair(edge + step)
                words.append(self.check(book, scale))
            self.assertEqual([words[0], sorted(words[1:])], ["hold", ["hold", "none"]])

    def test_long_integers(self):
        """[0.4] [10.11] Scales of 4,000 digits."""
        for book in (twin(), mixed(), apart(), six()) + tuple(books()[4:]):
            self.check(book, [(DIGITS_4000 - k, DIGITS_40 + k * k) for k in range(len(book))])
            self.check(book, [(DIGITS_40 + k * k, DIGITS_4000 - k) for k in range(len(book))])
        self.check(twin(), [(2, DIGITS_4000), (3, DIGITS_4000)])

    def test_copies(self):
        """[0.6] The scale is not changed, and each list is a new one."""
        for book, scale in ((twin(), [2, (6, 2)]), (apart(), [1, (10, 2)])):
            first, second = fitted_hold(book, scale), fitted_hold(book, scale)
            kept = copy.deepcopy(second)
            for line in first[1]:
                if isinstance(line, list):
                    line.clear()
            first[1].clear()
            self.assertEqual([second, fitted_hold(book, scale)], [kept, kept])
            self.assertEqual(scale[1] in ((6, 2), (10, 2)), True)


class TestIsRefusal(unittest.TestCase):
    def test_known_values(self):
        """[10.10] [10.11] The three conditions, by hand."""
        self.assertIs(is_refusal(apart(), [1, 5], [[1, -1], [-1, 1]]), True)
        self.assertIs(is_refusal(apart(), [1, 5], [[1, -1], [0, 0]]), False)
        self.assertIs(is_refusal(value=[[1, -1], [-1, 1]], scale=[1, 5], book=apart()), True)

    def test_each_condition(self):
        """[10.10] Met exactly, and missed by little."""
        step = pair(1 - TINY)
        # The first one: an entry of another row may be as great as the one of the diagonal, and no greater.
        self.assertIs(is_refusal(apart(), [1, 5], [[step, (-step[0], step[1])], [-1, 1]]), False)
        self.assertIs(is_refusal(apart(), [1, 5], [[1, -1], [(-step[0], step[1]), step]]), False)
        self.assertIs(is_refusal(apart(), [1, 5], [[-1, 1], [1, -1]]), False)
        # The second one: the sums of the rows are 0.
        self.assertIs(is_refusal(apart(), [1, 5], [[2, (-step[0], step[1])], [-1, 1]]), False)
        self.assertIs(is_refusal(apart(), [1, 5], [[1, -1], [0, 1]]), False)
        # The third one: the sum is above 0.
        self.assertIs(is_refusal(apart(), [1, 5], [[0, 0], [0, 0]]), False)
        self.assertIs(is_refusal(apart(), [1, 5], [[TINY.numerator, -1], [-1, 1]]), True)
        self.assertIs(is_refusal(apart(), [1, 5], [[pair(TINY), pair(-TINY)], [pair(-TINY), pair(TINY)]]), True)
        half = Book([1, 1], [[(1, [1, 1])], [(1, [1, 1])]])
        self.assertIs(is_refusal(half, [1, 1], [[1, -1], [-1, 1]]), False)

    def test_against_the_conditions(self):
        """[10.10] Refusals and what is a little beside them, for all books."""
        counted = {True: 0, False: 0}
        for book in all_books():
            kinds = range(len(book))
            for scale in scales(book)[:3]:
                word, found = fitted_hold(book, scale)
                if word == "hold":
                    continue
                rows = exact_rows(found)
                for j in kinds:
                    for i in kinds:
                        for step in (Fraction(0), TINY, -TINY):
                            other = [list(line) for line in rows]
                            other[j][i] += step
                            expected = refuses(book, scale, other)
                            counted[expected] += 1
                            value = [[pair(entry) for entry in line] for line in other]
                            self.assertIs(is_refusal(book, scale, value), expected)
                for size in (Fraction(7, 3), Fraction(0), Fraction(-1)):
                    value = [[pair(size * entry) for entry in line] for line in rows]
                    self.assertIs(is_refusal(book, scale, value), size > 0)
        self.assertGreater(min(counted.values()), 100)

    def test_no_scale_has_both(self):
        """[10.12] Where there is a hold, what refuses another scale does not refuse this one."""
        for book in all_books():
            found = [(scale, fitted_hold(book, scale)) for scale in scales(book)]
            refusals = [entry[1] for _, entry in found if entry[0] == "none"]
            for scale, entry in found:
                if entry[0] == "hold":
                    self.assertFalse(any(is_refusal(book, scale, value) for value in refusals))

    def test_any_values(self):
        """[0.9] [10.11] Any value is a refusal or not."""
        for value in no_lists() + no_integers() + [[[1, -1]], [[1, -1], [-1, 1], [0, 0]], [[1], [-1]]]:
            self.assertIs(is_refusal(apart(), [1, 5], value), False)
        for value in no_lists() + no_integers():
            self.assertIs(is_refusal(apart(), [1, 5], [value, [-1, 1]]), False)
            self.assertIs(is_refusal(apart(), [1, 5], [[1, -1], value]), False)
        for value in no_fractions():
            self.assertIs(is_refusal(apart(), [1, 5], [[value, -1], [-1, 1]]), False)
            self.assertIs(is_refusal(apart(), [1, 5], [[1, -1], [-1, value]]), False)
        self.assertIs(is_refusal(apart(), [1, 5], [[DIGITS_4000, -DIGITS_4000], [(-2, 2), (DIGITS_40, 1)]]), False)
        self.assertIs(is_refusal(apart(), [(1, DIGITS_4000), 5], [[(1, DIGITS_40), (-1, DIGITS_40)], [-1, 1]]), False)
        great = [[(DIGITS_4000, 7), (-DIGITS_4000, 7)], [(-DIGITS_4000, 7), (DIGITS_4000, 7)]]
        self.assertIs(is_refusal(apart(), [(1, DIGITS_4000), 5], great), True)

    def test_what_is_passed_is_not_changed(self):
        """[0.6] Neither the scale nor the value."""
        scale, value = [1, (10, 2)], [[(2, 2), -1], [-1, 1]]
        self.assertIs(is_refusal(apart(), scale, value), True)
        self.assertEqual([scale, value], [[1, (10, 2)], [[(2, 2), -1], [-1, 1]]])


class TestErrors(unittest.TestCase):
    def test_scales(self):
        """[10.11] A list of fractions above 0, one for each kind."""
        wrong = no_lists() + [[], [1], [1, 1, 1]]
        wrong += [[1, value] for value in no_fractions()] + [[value, 1] for value in (0, -1, (0, 2), -DIGITS_4000)]
        for scale in wrong:
            self.assertEqual(raised(fitted_hold, twin(), scale), ("InvalidBound", "scale"))
            self.assertEqual(raised(is_refusal, twin(), scale, [[1, -1], [-1, 1]]), ("InvalidBound", "scale"))
            self.assertEqual(raised(is_refusal, twin(), scale, None), ("InvalidBound", "scale"))

    def test_sequence(self):
        """[0.8] Only the scale has errors."""
        wrong = [("scale", [0, 1], ("InvalidBound", "scale")), ("value", None, ("returned", False))]
        check_sequence(self, is_refusal, {"book": twin(), "scale": [1, 1], "value": []}, wrong)


if __name__ == "__main__":
    unittest.main()
