"""Section 3: books, and the general rules as far as they concern books."""

import copy
import unittest
from fractions import Fraction
from itertools import permutations

from pageshares.books import Book
from tests.common import (
    DIGITS_40, DIGITS_4000, books, grown, lone, mixed, no_fractions, no_integers, no_lists, raised, six, twin,
)

WEIGHTS = [2, 3]
RULES = [[(1, [0, 1])], [(1, [2, 0])]]

# Four outcomes of the kind 0 of a book with the weights 3, 1, 2.
FOUR = [[0, 4, 0], [0, 0, 2], [1, 1, 0], [0, 2, 1]]


def four(chances, outcomes=FOUR):
    """The book with the weights 3, 1, 2 in which kind 0 has these chances for these outcomes."""
    return Book([3, 1, 2], [list(zip(chances, outcomes)), [(1, [0, 2, 0])], [(1, [0, 1, 1])]])


def exact(value):
    return Fraction(value[0], value[1])


class TestWeights(unittest.TestCase):
    def test_one_to_six_kinds(self):
        """[3.1] A book has 1 to 6 kinds."""
        for many in range(1, 7):
            book = Book([1] * many, [[(1, grown(many, kind))] for kind in range(many)])
            self.assertEqual(len(book), many)
        for many in (0, 7, 8):
            rules = [[(1, grown(many, kind))] for kind in range(many)]
            self.assertEqual(raised(Book, [1] * many, rules), ("InvalidBook", "weights", -1))

    def test_weights_from_1_to_12(self):
        """[3.1] [3.3] A weight is an integer from 1 to 12."""
        for weight in range(1, 13):
            book = Book([1, weight], [[(1, [2, 0])], [(1, [1, 1])]])
            self.assertEqual(book.weights(), [1, weight])
        for weight in [0, 13, -1, 100, DIGITS_40, -DIGITS_40, DIGITS_4000, -DIGITS_4000] + no_integers():
            with self.subTest(repr(weight)[:60]):
                self.assertEqual(raised(Book, [weight, 3], RULES), ("InvalidBook", "weights", 0))
                self.assertEqual(raised(Book, [2, weight], RULES), ("InvalidBook", "weights", 1))
                self.assertEqual(raised(Book, [weight, weight], RULES), ("InvalidBook", "weights", 0))

    def test_no_list(self):
        """[3.3] [0.9] The weights may be any value."""
        for value in no_lists():
            with self.subTest(repr(value)[:60]):
                self.assertEqual(raised(Book, value, RULES), ("InvalidBook", "weights", -1))

    def test_rules_that_are_no_list_of_that_length(self):
        """[3.3] There are as many lotteries as weights."""
        for value in no_lists() + [[], RULES[:1], RULES + RULES[:1]]:
            with self.subTest(repr(value)[:60]):
                self.assertEqual(raised(Book, WEIGHTS, value), ("InvalidBook", "rules", -1))


class TestForm(unittest.TestCase):
    def wrong(self, lottery, error):
        self.assertEqual(raised(Book, WEIGHTS, [lottery, RULES[1]]), error)
        self.assertEqual(raised(twin().with_lottery, 0, lottery), error)

    def test_one_to_four_entries(self):
        """[3.2] [3.4] A lottery is a list of 1 to 4 entries."""
        for many in range(1, 5):
            book = four([(1, many)] * many)
            self.assertEqual(len(book[0]), many)
        self.wrong([], ("InvalidBook", "form", 0))
        self.wrong([((1, 5), [0, 1])] * 5, ("InvalidBook", "form", 0))

    def test_no_list_of_tuples_of_two(self):
        """[3.4] [0.9] Each entry is a tuple of two values."""
        for value in no_lists():
            with self.subTest(repr(value)[:60]):
                self.wrong(value, ("InvalidBook", "form", 0))
        pairs = [(0, 1)]
        for entry in [value for value in no_integers() if value not in pairs] + [0, [1, [0, 1]], (1, [0, 1], 0)]:
            with self.subTest(repr(entry)[:60]):
                self.wrong([entry], ("InvalidBook", "form", 0))
                self.wrong([((1, 2), [0, 1]), entry], ("InvalidBook", "form", 0))


class TestChances(unittest.TestCase):
    def wrong(self, chances):
        self.assertEqual(raised(four, chances), ("InvalidBook", "chances", 0))

    def test_no_fractions_above_0(self):
        """[3.2] [3.4] A chance is a fraction above 0."""
        for value in no_fractions() + [0, (0, 1), (0, 7), -1, (-1, 2), -DIGITS_4000, (-1, DIGITS_4000)]:
            with self.subTest(repr(value)[:60]):
                self.wrong([value])
                self.wrong([value, 1])
                self.wrong([1, value])
        self.wrong([(3, 2), (-1, 2)])

    def test_the_sum_is_1(self):
        """[3.2] [3.4] The sum of the chances is 1."""
        for chances in ([2], [(1, 2)], [(1, 2), (1, 3)], [(1, 2), (2, 3)], [1, 1], [(1, 4)] * 3, [(1, 3)] * 4):
            self.wrong(chances)
        self.assertEqual(four([(1, 2), (1, 3), (1, 6)])[0][0], ((1, 3), [0, 0, 2]))

    def test_common_denominator_of_100_and_101(self):
        """[3.2] [3.4] The common denominator is at most 100."""
        self.assertEqual(four([(1, 100), (99, 100)])[0], [((99, 100), [0, 0, 2]), ((1, 100), [0, 4, 0])])
        self.assertEqual(len(four([(1, 4), (1, 25), (71, 100)])[0]), 3)
        self.assertEqual(len(four([(1, 99), (98, 99)])[0]), 2)
        self.wrong([(1, 101), (100, 101)])
        self.wrong([(1, 1000), (999, 1000)])
        self.wrong([(1, DIGITS_40), (DIGITS_40 - 1, DIGITS_40)])
        self.wrong([(1, DIGITS_4000), (DIGITS_4000 - 1, DIGITS_4000)])

    def test_each_denominator_is_small_but_not_the_common_one(self):
        """[3.2] One integer up to 100 has to serve all chances."""
        self.wrong([(1, 9), (1, 12), (1, 7), (167, 252)])
        self.wrong([(1, 11), (1, 10), (89, 110)])
        self.assertEqual(len(four([(1, 9), (1, 11), (79, 99)])[0]), 3)

    def test_chances_that_are_not_in_lowest_terms(self):
        """[0.3] [3.2] [3.5] What counts is the value; what is returned is in lowest terms."""
        self.assertEqual(four([(50, 200), (303, 404)])[0], [((3, 4), [0, 0, 2]), ((1, 4), [0, 4, 0])])
        self.assertEqual(four([(DIGITS_4000, DIGITS_4000)])[0], [((1, 1), [0, 4, 0])])
        self.assertEqual(four([1])[0], [((1, 1), [0, 4, 0])])
        long = [(3 * DIGITS_4000, 10 * DIGITS_4000), (7 * DIGITS_40, 10 * DIGITS_40)]
        self.assertEqual(four(long)[0], [((7, 10), [0, 0, 2]), ((3, 10), [0, 4, 0])])


class TestOutcomes(unittest.TestCase):
    def wrong(self, outcome, part):
        self.assertEqual(raised(Book, WEIGHTS, [[(1, outcome)], RULES[1]]), ("InvalidBook", part, 0))
        both = [((1, 2), [0, 1]), ((1, 2), outcome)]
        self.assertEqual(raised(Book, WEIGHTS, [both, RULES[1]]), ("InvalidBook", part, 0))

    def test_no_list_with_one_integer_for_each_kind(self):
        """[3.4] [0.9] An outcome is a list of as many integers as there are kinds."""
        for value in no_lists() + [[], [1], [0, 1, 0], [[0, 1]], [[0], [1]]]:
            with self.subTest(repr(value)[:60]):
                self.wrong(value, "outcomes")

    def test_entries(self):
        """[3.1] [3.4] The entries are integers from 0 to 20; 20 is too many only for the balance."""
        for entry in [-1, 21, 22, DIGITS_40, -DIGITS_40, DIGITS_4000, -DIGITS_4000] + no_integers():
            with self.subTest(repr(entry)[:60]):
                self.wrong([entry, 0], "outcomes")
                self.wrong([0, entry], "outcomes")
        self.wrong([0, 20], "balance")
        self.wrong([20, 20], "balance")
        self.wrong([0, 0], "balance")

    def test_likeness(self):
        """[3.2] [3.4] The outcomes of a lottery are different."""
        for many in (2, 3, 4):
            for place in range(1, many):
                outcomes = [list(outcome) for outcome in FOUR[:many]]
                outcomes[place] = list(outcomes[0])
                self.assertEqual(raised(four, [(1, many)] * many, outcomes), ("InvalidBook", "likeness", 0))
        outcomes = [FOUR[0], FOUR[1], FOUR[2], FOUR[1]]
        self.assertEqual(raised(four, [(1, 4)] * 4, outcomes), ("InvalidBook", "likeness", 0))

    def test_balance(self):
        """[3.2] [3.4] The weight of an outcome is the weight of the kind plus 1."""
        for outcome in ([1, 0], [0, 1], [1, 1], [3, 0], [0, 2]):
            rules = [[(1, [0, 1])], [(1, outcome)]]
            self.assertEqual(raised(Book, WEIGHTS, rules), ("InvalidBook", "balance", 1))
        outcomes = [FOUR[0], FOUR[1], FOUR[2], [0, 3, 1]]
        self.assertEqual(raised(four, [(1, 4)] * 4, outcomes), ("InvalidBook", "balance", 0))
        self.assertEqual(lone()[0], [((1, 1), [2])])


class TestSequenceOfTheErrors(unittest.TestCase):
    def test_weights_before_rules(self):
        """[3.3] [0.8] The list of the weights, its entries, the list of the rules, then the lotteries."""
        self.assertEqual(raised(Book, [], None), ("InvalidBook", "weights", -1))
        self.assertEqual(raised(Book, [0] * 7, None), ("InvalidBook", "weights", -1))
        self.assertEqual(raised(Book, [2, 0], None), ("InvalidBook", "weights", 1))
        self.assertEqual(raised(Book, [2, 13], [None, None]), ("InvalidBook", "weights", 1))
        self.assertEqual(raised(Book, [2, 3], [None]), ("InvalidBook", "rules", -1))
        self.assertEqual(raised(Book, [2, 3], [None, None]), ("InvalidBook", "form", 0))

    def test_parts_of_one_lottery(self):
        """[3.4] form, chances, outcomes, likeness, balance, each one for the whole lottery."""
        # In each lottery the last entry has the error named and the earlier ones have all the later errors.
        cases = [
            ([(0, None), (0, None, 0)], "form"),
            ([(1, None), (0, None)], "chances"),
            ([((1, 2), [9, 9]), ((1, 4), [9, 9]), ((1, 4), None)], "outcomes"),
            ([((1, 2), [9, 9]), ((1, 2), [9, 9])], "likeness"),
            ([((1, 2), [9, 9]), ((1, 2), [9, 8])], "balance"),
        ]
        for lottery, part in cases:
            with self.subTest(part):
                self.assertEqual(raised(Book, WEIGHTS, [lottery, RULES[1]]), ("InvalidBook", part, 0))
                self.assertEqual(raised(Book, WEIGHTS, [RULES[0], lottery]), ("InvalidBook", part, 1))
                self.assertEqual(raised(twin().with_lottery, 1, lottery), ("InvalidBook", part, 1))

    def test_kind_by_kind(self):
        """[3.3] All errors of a kind come before those of the next one."""
        for first, part in (([(1, [1, 1])], "balance"), ([(1, None)], "outcomes"), ([(2, [0, 1])], "chances")):
            self.assertEqual(raised(Book, WEIGHTS, [first, None]), ("InvalidBook", part, 0))
        self.assertEqual(raised(Book, WEIGHTS, [RULES[0], None]), ("InvalidBook", "form", 1))


class TestReading(unittest.TestCase):
    def test_weights_and_length(self):
        """[3.5] The weights are a list, and the length is the number of kinds."""
        self.assertEqual([six().weights(), len(six())], [[1, 2, 3, 4, 5, 12], 6])
        self.assertEqual([lone().weights(), len(lone())], [[1], 1])

    def test_lottery_in_ascending_order_of_the_outcomes(self):
        """[3.5] [0.5] The sequence in which the entries were passed does not matter."""
        chances = [(1, 10), (2, 10), (3, 10), (4, 10)]
        expected = [((1, 5), [0, 0, 2]), ((2, 5), [0, 2, 1]), ((1, 10), [0, 4, 0]), ((3, 10), [1, 1, 0])]
        for order in permutations(range(4)):
            book = four([chances[k] for k in order], [FOUR[k] for k in order])
            self.assertEqual(book[0], expected)
            self.assertEqual(book, four(chances))

    def test_kinds_of_values(self):
        """[0.3] [3.5] Lists of tuples of a tuple and a list."""
        for entry in six()[5]:
            self.assertEqual([type(entry), type(entry[0]), type(entry[1])], [tuple, tuple, list])

    def test_wrong_kind(self):
        """[3.5] [3.6] The kind may be any value."""
        for value in [-1, 2, 3, DIGITS_40, -DIGITS_40, DIGITS_4000, -DIGITS_4000] + no_integers():
            with self.subTest(repr(value)[:60]):
                self.assertEqual(raised(lambda: twin()[value]), ("InvalidBound", "kind"))
                self.assertEqual(raised(twin().mean_outcome, value), ("InvalidBound", "kind"))
        self.assertEqual([twin()[0], twin()[1]], [[((1, 1), [0, 1])], [((1, 1), [2, 0])]])
        self.assertEqual(raised(lambda: lone()[1]), ("InvalidBound", "kind"))

    def test_is_sure(self):
        """[3.2] [3.5] A book is sure if each lottery has one entry."""
        self.assertEqual([book.is_sure() for book in books()], [True, False, True, False, False, False])
        half = [((1, 2), [3, 0]), ((1, 2), [1, 1])]
        self.assertIs(Book([1, 2], [[(1, [2, 0])], half]).is_sure(), False)
        self.assertIs(Book([1, 2], [[(1, [2, 0])], [(1, [3, 0])]]).is_sure(), True)

    def test_no_iteration(self):
        """[0.10] Iterating over a book raises a TypeError."""
        with self.assertRaises(TypeError):
            iter(twin())
        with self.assertRaises(TypeError):
            list(twin())
        with self.assertRaises(TypeError):
            [0 for _ in twin()]
        with self.assertRaises(TypeError):
            1 in twin()


class TestEquality(unittest.TestCase):
    def test_equal(self):
        """[3.5] [0.10] The same weights, and for each kind the same outcomes with the same chances."""
        for one, other in zip(books(), books()):
            self.assertIs(one == other, True)
            self.assertIs(one != other, False)
        self.assertEqual(four([(2, 4), (3, 6)]), four([(1, 2), (1, 2)]))

    def test_different(self):
        """[3.5] Different weights, outcomes or chances make different books."""
        many = books()
        for i, one in enumerate(many):
            for other in many[i + 1:]:
                self.assertIs(one == other, False)
                self.assertIs(one != other, True)
        self.assertNotEqual(four([(1, 3), (2, 3)]), four([(2, 3), (1, 3)]))
        self.assertNotEqual(four([(1, 2), (1, 2)]), four([(1, 2), (1, 2)], [FOUR[0], FOUR[2]]))
        self.assertNotEqual(four([1]), four([1], FOUR[1:]))
        plain = [[(1, [2, 0])], [(1, [1, 1])]]
        self.assertNotEqual(Book([1, 2], plain), Book([1, 3], plain))


class TestMeans(unittest.TestCase):
    def test_mean_outcome(self):
        """[3.6] [0.3] [0.13] The sum of chance times number, in lowest terms."""
        for book in books():
            for kind in range(len(book)):
                sums = [sum(exact(chance) * out[j] for chance, out in book[kind]) for j in range(len(book))]
                expected = [(mean.numerator, mean.denominator) for mean in map(Fraction, sums)]
                self.assertEqual(book.mean_outcome(kind), expected)
        self.assertEqual(mixed().mean_outcome(0), [(2, 3), (2, 3)])
        self.assertEqual(six().mean_outcome(5), [(19, 10), (6, 5), (0, 1), (3, 5), (3, 10), (2, 5)])
        self.assertEqual(twin().mean_outcome(kind=1), [(2, 1), (0, 1)])

    def test_matrix(self):
        """[3.7] [0.13] Row j, column i: weight of i times (mean outcome of i at j, minus 1 if j is i)."""
        self.assertEqual(mixed().matrix(), [[(-1, 3), (2, 1)], [(2, 3), (0, 1)]])
        self.assertEqual(lone().matrix(), [[(1, 1)]])
        for book in books():
            for j, line in enumerate(book.matrix()):
                for i, entry in enumerate(line):
                    change = exact(book.mean_outcome(i)[j]) - (1 if i == j else 0)
                    expected = book.weights()[i] * change
                    self.assertEqual(entry, (expected.numerator, expected.denominator))

    def test_facts(self):
        """[3.9] Weights of mean outcomes, weights of columns, and signs outside of the diagonal."""
        for book in books():
            weights, matrix = book.weights(), book.matrix()
            for i, weight in enumerate(weights):
                mean = book.mean_outcome(i)
                self.assertEqual(sum(w * exact(entry) for w, entry in zip(weights, mean)), weight + 1)
                column = [line[i] for line in matrix]
                self.assertEqual(sum(w * exact(entry) for w, entry in zip(weights, column)), weight)
                self.assertTrue(all(entry[0] >= 0 for j, entry in enumerate(column) if j != i))


class TestWithLottery(unittest.TestCase):
    def test_replaces_one_lottery(self):
        """[3.8] [0.7] The new book has the lottery, all else and the old book stay."""
        book = mixed()
        changed = book.with_lottery(1, [((1, 2), [3, 0]), ((1, 2), [1, 1])])
        self.assertEqual(changed[1], [((1, 2), [1, 1]), ((1, 2), [3, 0])])
        self.assertEqual([changed[0], changed.weights()], [book[0], [1, 2]])
        self.assertEqual(book, mixed())
        self.assertEqual(changed.with_lottery(kind=1, lottery=[(1, [1, 1])]), book)
        self.assertEqual(book.with_lottery(0, book[0]), book)

    def test_wrong_kind_before_wrong_lottery(self):
        """[3.8] [0.8] The kind is checked first, then the lottery."""
        for value in [-1, 2, DIGITS_4000] + no_integers():
            with self.subTest(repr(value)[:60]):
                self.assertEqual(raised(twin().with_lottery, value, None), ("InvalidBound", "kind"))
        self.assertEqual(raised(twin().with_lottery, 0, None), ("InvalidBook", "form", 0))
        self.assertEqual(raised(twin().with_lottery, 1, [(1, [1, 1])]), ("InvalidBook", "balance", 1))


class TestRenamed(unittest.TestCase):
    def test_weights_lotteries_and_outcomes(self):
        """[3.8] Kind k of the new book is kind order[k] of the old one, everywhere."""
        for book in books():
            many = len(book)
            for order in list(permutations(range(many)))[:30]:
                new = book.renamed(list(order))
                self.assertEqual(new.weights(), [book.weights()[old] for old in order])
                for k in range(many):
                    entries = [(chance, [out[old] for old in order]) for chance, out in book[order[k]]]
                    self.assertEqual(new[k], sorted(entries, key=lambda entry: entry[1]))

    def test_a_cycle_of_three(self):
        """[3.8] The order reads old numbers, not new ones."""
        book = Book([1, 2, 3], [[(1, [2, 0, 0])], [(1, [0, 0, 1])], [(1, [1, 0, 1])]])
        new = book.renamed(order=[1, 2, 0])
        expected = Book([2, 3, 1], [[(1, [0, 1, 0])], [(1, [0, 1, 1])], [(1, [0, 0, 2])]])
        self.assertEqual(new, expected)
        self.assertEqual(new.renamed([2, 0, 1]), book)
        self.assertEqual(book.renamed([0, 1, 2]), book)

    def test_wrong_order(self):
        """[3.8] The order is a list that has each kind once."""
        wrong = [[], [0], [0, 0], [1, 1], [0, 2], [1, 2], [0, 1, 1], [0, 1, 2], [-1, 0], [0, -1], [DIGITS_4000, 0]]
        for value in wrong + no_lists() + [[value, 1] for value in no_integers()]:
            with self.subTest(repr(value)[:60]):
                self.assertEqual(raised(twin().renamed, value), ("InvalidBound", "order"))
        for value in no_integers():
            self.assertEqual(raised(twin().renamed, [0, value]), ("InvalidBound", "order"))
        self.assertEqual(lone().renamed([0]), lone())
        self.assertEqual(raised(lone().renamed, [False]), ("InvalidBound", "order"))


class TestCopies(unittest.TestCase):
    def test_what_is_passed_is_not_changed(self):
        """[0.6] [0.11] No list that is passed is changed, also not by a call that raises an error."""
        weights, rules = [3, 1, 2], [list(zip([(1, 4)] * 4, FOUR)), [(1, [0, 2, 0])], [(2, [0, 1, 1])]]
        before = copy.deepcopy([weights, rules])
        self.assertEqual(raised(Book, weights, rules), ("InvalidBook", "chances", 2))
        self.assertEqual([weights, rules], before)
        rules[2] = [(1, [0, 1, 1])]
        before = copy.deepcopy([weights, rules])
        book = Book(weights, rules)
        order, lottery = [2, 1, 0], [((1, 2), [1, 1, 0]), ((2, 4), [0, 4, 0])]
        before_those = copy.deepcopy([order, lottery])
        book.renamed(order)
        book.with_lottery(0, lottery)
        self.assertEqual([weights, rules, order, lottery], before + before_those)

    def test_changes_of_passed_lists_have_no_effect(self):
        """[0.6] The book keeps copies, of the lists inside the lists too."""
        weights, rules = [2, 3], [[(1, [0, 1])], [(1, [2, 0])]]
        book = Book(weights, rules)
        lottery = [(1, [0, 1])]
        other = book.with_lottery(0, lottery)
        weights[0] = 5
        rules[0][0][1][0] = 7
        rules[1].append(None)
        rules.pop()
        lottery[0][1][0] = 9
        lottery.clear()
        self.assertEqual([book, other], [twin(), twin()])

    def test_changes_of_returned_lists_have_no_effect(self):
        """[0.6] Each returned list is a new one, at each call, and so is each list inside it."""
        for make in (twin, mixed, six):
            book = make()
            for read in (book.weights, lambda: book[0], lambda: book.mean_outcome(0), book.matrix):
                first, second = read(), read()
                self.assertIsNot(first, second)
                kept = copy.deepcopy(second)
                first.append(None)
                first[0] = None
                self.assertEqual([second, read()], [kept, kept])
            book[0][0][1][0] = 99
            book.matrix()[0][0] = None
            self.assertEqual(book, make())
            self.assertEqual([book.matrix(), book[0]], [make().matrix(), make()[0]])

    def test_new_books_do_not_share_with_old_ones(self):
        """[0.7] Methods return new objects."""
        book = twin()
        self.assertIsNot(book.renamed([0, 1]), book)
        self.assertIsNot(book.with_lottery(0, book[0]), book)


if __name__ == "__main__":
    unittest.main()
