"""Section 13: texts."""

import unittest

from pageshares.books import Book
from pageshares.fitting import fitted_hold
from pageshares.holds import is_hold, simple_hold
from pageshares.texts import read_book, read_hold, read_standing, show_book, show_hold, show_standing
from tests.bank import all_books, standings
from tests.common import books, lone, mixed, no_integers, raised, six, twin
from tests.exact import exact, pair

TWIN = "weights 2 3\nrule 0 1 0 1\nrule 1 1 2 0"
SIXTY = 10 ** 59 + 3
NOT_PLAIN_WORDS = ["", "-1", "-0", "+3", "03", "00", "1.0", "1_0", "1e3", "0x1", "one", "1/2", "2/1", "\t1", "1\t",
                   "1\r", "'1'", "--1", "1-", "-", "10,", "1" * 61, "9" * 5000]
NOT_FRACTION_WORDS = ["", "-0", "+3", "03", "-03", "2/4", "3/1", "1/-2", "0/5", "-0/5", "1/0", "0/0", "1/01", "01/2",
                      "1/", "/2", "/", "1/2/3", "1//2", "-/2", "--1/2", "1/+2", "1.5", "1_0/3", "\t1/2", "1/2\t",
                      "1" * 61, "-" + "1" * 61, "1/" + "3" * 61, "1" * 61 + "/3", "2" * 60 + "/" + "4" * 60,
                      "1" * 5000 + "/3", "half", "-"]


def line_of(words, place, word):
    """The line in which the word stands at the place instead."""
    return " ".join(words[:place] + [word] + words[place + 1:])


def held_books():
    """Tuples of a book and a hold of it."""
    found = []
    for book in all_books():
        for scale in ([(k + 1, 7) for k in range(len(book))], [10 ** 30 + k for k in range(len(book))]):
            word, shift = fitted_hold(book, scale)
            if word == "hold":
                found.append((book, (scale, shift)))
        if simple_hold(book):
            found.append((book, simple_hold(book)))
    return found


class TestShowBook(unittest.TestCase):
    def test_known_values(self):
        """[13.1] [13.3] The weights, then the entries of each lottery."""
        self.assertEqual(show_book(twin()), TWIN)
        self.assertEqual(show_book(book=mixed()), "weights 1 2\nrule 0 2/3 0 1\nrule 0 1/3 2 0\nrule 1 1 1 1")
        self.assertEqual(show_book(lone()), "weights 1\nrule 0 1 2")

    def test_all_books(self):
        """[13.3] Kind by kind, in the sequence of book[kind]."""
        for book in all_books():
            lines = ["weights " + " ".join(map(str, book.weights()))]
            for kind in range(len(book)):
                for (above, below), outcome in book[kind]:
                    chance = str(above) if below == 1 else f"{above}/{below}"
                    lines.append(" ".join(["rule", str(kind), chance] + [str(pages) for pages in outcome]))
            self.assertEqual(show_book(book), "\n".join(lines))

    def test_the_sequence_that_was_passed_does_not_matter(self):
        """[3.5] [13.3] Ascending by the outcomes."""
        one = Book([1, 2], [[((1, 3), [2, 0]), ((4, 6), [0, 1])], [((2, 2), [1, 1])]])
        other = Book([1, 2], [[((2, 3), [0, 1]), ((3, 9), [2, 0])], [(1, [1, 1])]])
        self.assertEqual([show_book(one), show_book(other)], [show_book(mixed())] * 2)


class TestReadBook(unittest.TestCase):
    def wrong(self, text, line, word):
        with self.subTest(text[:80]):
            self.assertEqual(raised(read_book, text), ("InvalidText", line, word))

    def test_known_values(self):
        """[13.4] The book of the text."""
        self.assertEqual(read_book(TWIN), twin())
        self.assertEqual(read_book(text="weights 1\nrule 0 1 2"), lone())

    def test_all_books(self):
        """[13.7] Reading the text of a book gives an equal book."""
        for book in all_books() + books():
            found = read_book(show_book(book))
            self.assertTrue(found == book)
            self.assertEqual(show_book(found), show_book(book))

    def test_rules_in_any_sequence(self):
        """[13.4] The lines with `rule` may stand in any sequence."""
        for book in all_books():
            head, *rules = show_book(book).split("\n")
            for lines in (rules[::-1], rules[1:] + rules[:1], rules[::2] + rules[1::2]):
                self.assertEqual(read_book("\n".join([head] + lines)), book)

    def test_the_sequence_of_a_lottery_is_that_of_its_lines(self):
        """[13.4] As the errors of Book tell."""
        text = "weights 1 1\nrule 0 1/2 0 2\nrule 1 1 0 2\nrule 0 1/2 2 1"
        self.assertEqual(raised(read_book, text), ("InvalidBook", "balance", 0))
        text = "weights 1 1\nrule 1 1 0 3\nrule 0 1 0 3"
        self.assertEqual(raised(read_book, text), ("InvalidBook", "balance", 0))

    def test_no_string(self):
        """[13.2] InvalidText(-1, -1) if the text is not a string."""
        for value in [value for value in no_integers() if not isinstance(value, str)] + [0, 7]:
            self.assertEqual(raised(read_book, value), ("InvalidText", -1, -1))
            self.assertEqual(raised(read_standing, twin(), value), ("InvalidText", -1, -1))
            self.assertEqual(raised(read_hold, twin(), value), ("InvalidText", -1, -1))

    def test_line_0(self):
        """[13.2] [13.4] `weights` and at least one plain word."""
        self.wrong("", 0, 0)
        self.wrong("weights", 0, 1)
        self.wrong("weights\nrule", 0, 1)
        self.wrong("weights ", 0, 1)
        self.wrong(" weights 2", 0, 0)
        self.wrong("Weights 2 3", 0, 0)
        self.wrong("weights\t2 3", 0, 0)
        self.wrong("rule 0 1 2", 0, 0)
        self.wrong("weights  2 3", 0, 1)
        self.wrong("weights 2 3 ", 0, 3)
        self.wrong("weights 2 3 \nx", 0, 3)
        self.wrong("\nweights 2 3", 0, 0)
        for word in NOT_PLAIN_WORDS:
            self.wrong("weights " + word, 0, 1)
            self.wrong("weights 2 " + word + " 3", 0, 2)
            self.wrong("weights 2 3 " + word + "\nx y", 0, 3)

    def test_rule_lines(self):
        """[13.2] [13.4] Each word of a line with `rule`."""
        words = "rule 1 1/2 2 0".split(" ")
        head = "weights 2 3\nrule 0 1 0 1\n"
        for word in ["", "Rule", "rules", "weights", "rule\t", "0"]:
            self.wrong(head + line_of(words, 0, word), 2, 0)
        for word in NOT_PLAIN_WORDS + ["2", "3", "1" * 60]:
            self.wrong(head + line_of(words, 1, word), 2, 1)
        for word in NOT_FRACTION_WORDS:
            self.wrong(head + line_of(words, 2, word), 2, 2)
        for word in NOT_PLAIN_WORDS:
            self.wrong(head + line_of(words, 3, word), 2, 3)
            self.wrong(head + line_of(words, 4, word), 2, 4)
        for many in range(1, 5):
            self.wrong(head + " ".join(words[:many]), 2, many)
            self.wrong(head + " ".join(words[:many]) + "\nx", 2, many)
        self.wrong(head + " ".join(words) + " 0", 2, 5)
        self.wrong(head + " ".join(words) + " ", 2, 5)
        self.wrong(head + " ".join(words) + " x y", 2, 5)
        self.wrong("weights 2 3\nrule 0 1 0", 1, 4)

    def test_empty_lines(self):
        """[13.2] A newline at the end is followed by a line with one empty word."""
        self.wrong(TWIN + "\n", 3, 0)
        self.wrong(TWIN + "\n\n", 3, 0)
        self.wrong("weights 2 3\n\nrule 0 1 0 1\nrule 1 1 2 0", 1, 0)
        self.wrong("weights 2 3\r\nrule 0 1 0 1", 0, 2)
        self.wrong("weights 2 3\n\trule 0 1 0 1", 1, 0)
        self.wrong("weights 2 3\x0brule 0 1 0 1", 0, 2)
        self.wrong("weights 2 3\x0crule", 0, 2)
        self.wrong("weights 2 3\x1crule", 0, 2)

    def test_the_first_wrong_word(self):
        """[13.2] Line by line, from left to right."""
        self.wrong("weights 2 x\nrules", 0, 2)
        self.wrong("weights 2 3\nrule 2 x x", 1, 1)
        self.wrong("weights 2 3\nrule 0 x", 1, 2)
        self.wrong("weights 2 3\nrule 0\nrule 2", 1, 2)
        self.wrong("weights 2 3\nrule 0 1 0 1 1\nx", 1, 5)
        # Words come before the errors of Book, of whatever kind.
        self.wrong("weights 0 0 0 0 0 0 0 0\nrule 7 1 0", 1, 4)
        self.wrong("weights 13\nrule 0 -1 3\nrule 0 0 3 3", 2, 4)

    def test_errors_of_the_book(self):
        """[13.4] If all words are good, the error of Book; a kind without a line has the empty lottery."""
        cases = [
            ("weights 0", ("InvalidBook", "weights", 0)),
            ("weights 1 13", ("InvalidBook", "weights", 1)),
            ("weights 1 1 1 1 1 1 1", ("InvalidBook", "weights", -1)),
            ("weights " + "1" * 60, ("InvalidBook", "weights", 0)),
            ("weights 1", ("InvalidBook", "form", 0)),
            ("weights 2 3", ("InvalidBook", "form", 0)),
            ("weights 2 3\nrule 0 1 0 1", ("InvalidBook", "form", 1)),
            ("weights 2 3\nrule 1 1 2 0", ("InvalidBook", "form", 0)),
            ("weights 1" + "\nrule 0 1/5 2" * 5, ("InvalidBook", "form", 0)),
            ("weights 1\nrule 0 -1 2", ("InvalidBook", "chances", 0)),
            ("weights 1\nrule 0 -1/2 2", ("InvalidBook", "chances", 0)),
            ("weights 1\nrule 0 0 2", ("InvalidBook", "chances", 0)),
            ("weights 1\nrule 0 1/2 2", ("InvalidBook", "chances", 0)),
            ("weights 1\nrule 0 1/" + "9" * 60 + " 2", ("InvalidBook", "chances", 0)),
            ("weights 1\nrule 0 1 21", ("InvalidBook", "outcomes", 0)),
            ("weights 1\nrule 0 1 " + "9" * 60, ("InvalidBook", "outcomes", 0)),
            ("weights 1\nrule 0 1/2 2\nrule 0 1/2 2", ("InvalidBook", "likeness", 0)),
            ("weights 1\nrule 0 1 3", ("InvalidBook", "balance", 0)),
            ("weights 2 3\nrule 1 1 1 1\nrule 0 1 0 1", ("InvalidBook", "balance", 1)),
        ]
        for text, error in cases:
            with self.subTest(text[:60]):
                self.assertEqual(raised(read_book, text), error)

    def test_60_and_61_digits(self):
        """[13.1] A word in which an integer has more than 60 digits is wrong."""
        self.assertEqual(raised(read_book, f"weights {SIXTY}"), ("InvalidBook", "weights", 0))
        self.wrong(f"weights {SIXTY}0", 0, 1)
        self.assertEqual(raised(read_book, f"weights 1\nrule 0 -{SIXTY} 2"), ("InvalidBook", "chances", 0))
        self.wrong(f"weights 1\nrule 0 -{SIXTY}0 2", 1, 2)
        self.assertEqual(raised(read_book, f"weights 1\nrule 0 -{SIXTY - 1}/{SIXTY} 2"), ("InvalidBook", "chances", 0))
        self.wrong(f"weights 1\nrule 0 1/{SIXTY}0 2", 1, 2)

    def test_long_texts(self):
        """[13.2] Texts of any length are read to their first wrong word."""
        many = 20000
        self.wrong("weights 2 3" + "\nrule 0 1 0 1" * many + "\nrule 0 1 0 01", many + 1, 4)
        self.assertEqual(raised(read_book, "weights 2 3" + "\nrule 1 1 0 1" * many), ("InvalidBook", "form", 0))
        self.wrong("weights" + " 1" * many + " -1", 0, many + 1)
        self.assertEqual(raised(read_book, "weights" + " 1" * many), ("InvalidBook", "weights", -1))
        self.wrong("weights 1\nrule 0 1 " + "7" * 100000, 1, 3)


class TestStandings(unittest.TestCase):
    def wrong(self, text, line, word):
        with self.subTest(text[:80]):
            self.assertEqual(raised(read_standing, twin(), text), ("InvalidText", line, word))

    def test_known_values(self):
        """[13.5] `pages` and the counts."""
        self.assertEqual(show_standing(twin(), [4, 0]), "pages 4 0")
        self.assertEqual(show_standing(counts=[SIXTY, 1], book=twin()), f"pages {SIXTY} 1")
        self.assertEqual(read_standing(twin(), "pages 0 7"), [0, 7])
        self.assertEqual(read_standing(text=f"pages {SIXTY} 0", book=twin()), [SIXTY, 0])
        self.assertEqual([show_standing(lone(), [9]), read_standing(lone(), "pages 9")], ["pages 9", [9]])

    def test_there_and_back(self):
        """[13.7] Reading the text of a standing gives an equal list."""
        for book in all_books():
            for counts in standings(len(book)) + [[10 ** 60 - 1 - k for k in range(len(book))]]:
                text = show_standing(book, counts)
                self.assertEqual(text, "pages " + " ".join(map(str, counts)))
                self.assertEqual(read_standing(book, text), counts)

    def test_wrong_standings(self):
        """[13.5] show_standing raises InvalidStanding."""
        for counts, at in (([0, 0], -1), ([1], -1), ([1, -1], 1), ([True, 1], 0), (None, -1), ((1, 1), -1)):
            self.assertEqual(raised(show_standing, twin(), counts), ("InvalidStanding", at))

    def test_wrong_words(self):
        """[13.2] [13.5] Each word of the line, and all that comes after it."""
        for word in ["", "page", "Pages", "pages\t"]:
            self.wrong(word + " 1 1", 0, 0)
        for word in NOT_PLAIN_WORDS:
            self.wrong(f"pages {word} 1", 0, 1)
            self.wrong(f"pages 1 {word}", 0, 2)
        self.wrong("", 0, 0)
        self.wrong("pages", 0, 1)
        self.wrong("pages 1", 0, 2)
        self.wrong("pages 1\n", 0, 2)
        self.wrong("pages 1 1 1", 0, 3)
        self.wrong("pages 1 1 ", 0, 3)
        self.wrong("pages 1 1\n", 1, 0)
        self.wrong("pages 1 1\npages 1 1", 1, 0)
        self.wrong("pages 0 0\n", 1, 0)
        self.wrong("pages 0 x\n", 0, 2)
        self.wrong(f"pages {SIXTY}0 1", 0, 1)

    def test_no_standing(self):
        """[13.5] If all words are good, InvalidStanding if it is no standing."""
        self.assertEqual(raised(read_standing, twin(), "pages 0 0"), ("InvalidStanding", -1))
        self.assertEqual(raised(read_standing, lone(), "pages 0"), ("InvalidStanding", -1))


class TestHolds(unittest.TestCase):
    def wrong(self, text, line, word):
        with self.subTest(text[:80]):
            self.assertEqual(raised(read_hold, twin(), text), ("InvalidText", line, word))

    def test_known_values(self):
        """[13.6] Two lines of words of fractions."""
        self.assertEqual(show_hold(twin(), ([2, (6, 2)], [(4, 2), 1])), "scale 2 3\nshift 2 1")
        self.assertEqual(show_hold(hold=([(2, 6), (1, 2)], [2, (9, 10)]), book=twin()), "scale 1/3 1/2\nshift 2 9/10")
        self.assertEqual(read_hold(twin(), "scale 2 3\nshift 2 1"), ([(2, 1), (3, 1)], [(2, 1), (1, 1)]))
        found = read_hold(text="scale 1/3 1/2\nshift 2 9/10", book=twin())
        self.assertEqual(found, ([(1, 3), (1, 2)], [(2, 1), (9, 10)]))
        self.assertEqual(show_hold(lone(), ([1], [7])), "scale 1\nshift 7")

    def test_there_and_back(self):
        """[13.7] Reading the text of a hold gives an equal tuple, with all entries in lowest terms."""
        negative = 0
        for book, hold in held_books():
            text = show_hold(book, hold)
            negative += "-" in text
            expected = tuple([pair(exact(entry)) for entry in entries] for entries in hold)
            self.assertEqual(read_hold(book, text), expected)
            self.assertEqual(show_hold(book, expected), text)
        self.assertGreater(negative, 3)

    def test_60_digits(self):
        """[13.1] [13.7] Integers of 60 digits, in both parts of a fraction."""
        hold = ([(2 * SIXTY, SIXTY + 1), (3 * SIXTY, SIXTY + 1)], [2, (SIXTY, SIXTY - 1)])
        expected = tuple([pair(exact(entry)) for entry in entries] for entries in hold)
        self.assertIs(is_hold(twin(), hold), True)
        self.assertEqual(read_hold(twin(), show_hold(twin(), hold)), expected)
        self.assertEqual(read_hold(lone(), f"scale {SIXTY}\nshift {SIXTY}"), ([(SIXTY, 1)], [(SIXTY, 1)]))
        self.assertEqual(raised(read_hold, lone(), f"scale {SIXTY}0\nshift 1"), ("InvalidText", 0, 1))
        self.assertEqual(raised(read_hold, lone(), f"scale 1\nshift {SIXTY}0"), ("InvalidText", 1, 1))
        self.assertEqual(raised(read_hold, lone(), f"scale 1\nshift -{SIXTY}"), ("InvalidHold", "column"))
        self.assertEqual(raised(read_hold, lone(), f"scale 1\nshift -{SIXTY}0"), ("InvalidText", 1, 1))

    def test_wrong_words(self):
        """[13.2] [13.6] Each word of both lines, and all that comes after them."""
        for word in ["", "Scale", "shift", "scale\t"]:
            self.wrong(word + " 2 3\nshift 2 1", 0, 0)
        for word in ["", "Shift", "scale", "shift\t"]:
            self.wrong("scale 2 3\n" + word + " 2 1", 1, 0)
        for word in NOT_FRACTION_WORDS:
            self.wrong(f"scale {word} 3\nshift 2 1", 0, 1)
            self.wrong(f"scale 2 {word}\nshift 2 1", 0, 2)
            self.wrong(f"scale 2 3\nshift {word} 1", 1, 1)
            self.wrong(f"scale 2 3\nshift 2 {word}", 1, 2)
        self.wrong("", 0, 0)
        self.wrong("scale", 0, 1)
        self.wrong("scale 2", 0, 2)
        self.wrong("scale 2\nshift 2 1", 0, 2)
        self.wrong("scale 2 3 1\nshift 2 1", 0, 3)
        self.wrong("scale 2 3 ", 0, 3)
        self.wrong("scale 2 3", 1, 0)
        self.wrong("scale 2 3\n", 1, 0)
        self.wrong("scale 2 3\nshift", 1, 1)
        self.wrong("scale 2 3\nshift 2", 1, 2)
        self.wrong("scale 2 3\nshift 2 1 1", 1, 3)
        self.wrong("scale 2 3\nshift 2 1\n", 2, 0)
        self.wrong("scale 0 0\nshift 0 0\nscale", 2, 0)
        self.wrong("scale 2 3\nshift 2 01", 1, 2)

    def test_no_hold(self):
        """[13.6] If all words are good, InvalidHold if it is no hold."""
        self.assertEqual(raised(read_hold, twin(), "scale 0 3\nshift 2 1"), ("InvalidHold", "scale"))
        self.assertEqual(raised(read_hold, twin(), "scale 2 -3\nshift 2 1"), ("InvalidHold", "scale"))
        self.assertEqual(raised(read_hold, twin(), "scale 2 3\nshift 0 0"), ("InvalidHold", "column"))
        text = "scale" + " 1" * 6 + "\nshift" + " -9" * 6
        self.assertEqual(raised(read_hold, six(), text), ("InvalidHold", "column"))

    def test_wrong_holds(self):
        """[13.6] show_hold raises InvalidHold."""
        for hold, part in ((None, "form"), (([2], [1]), "form"), (([2, 0], [2, 1]), "scale"),
                           (([2, 3], [2, None]), "shift"), (([2, 3], [0, 0]), "column")):
            self.assertEqual(raised(show_hold, twin(), hold), ("InvalidHold", part))

    def test_copies(self):
        """[0.6] New lists at each call, and nothing that is passed is changed."""
        hold = ([2, (6, 2)], [(4, 2), 1])
        show_hold(twin(), hold)
        self.assertEqual(hold, ([2, (6, 2)], [(4, 2), 1]))
        first = read_hold(twin(), "scale 2 3\nshift 2 1")
        first[0].clear()
        self.assertEqual(read_hold(twin(), "scale 2 3\nshift 2 1")[0], [(2, 1), (3, 1)])


if __name__ == "__main__":
    unittest.main()
