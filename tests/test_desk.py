"""Section 14: the desk."""

import copy
import random
import unittest
from fractions import Fraction

from pageshares.books import Book
from pageshares.coming import come
from pageshares.desk import Desk
from pageshares.errors import InvalidBound, ShareError
from pageshares.extremes import extreme
from pageshares.means import mean, value
from tests.bank import all_books, standings
from tests.common import (
    DIGITS_40, DIGITS_4000, books, check_sequence, lone, mixed, no_fractions, no_integers, no_lists, raised, six, twin,
)
from tests.exact import dot, exact, exacts, gaps_of, pair, pairs
from tests.wide import DIPPING, FULL, wide

MILLION = 1000000


def seen(desk):
    """All that a desk tells, but for what can be redone."""
    since = desk.since()
    return [desk.book(), desk.standing(), desk.marked(), desk.prices, desk.log(), since, desk.gaps(), desk.worth(),
            len(desk), [desk[kind] for kind in range(len(desk))], [kind in desk for kind in range(len(desk))],
            desk.surplus() if since <= 200 else None]


def redoable(desk):
    """How many deeds can be redone; the desk is left as it is."""
    found = 0
    while raised(lambda: desk.trial(lambda one: one.redo(found + 1)))[0] == "returned":
        found += 1
    return found


def whole(desk):
    """All that a desk tells, with what can be redone."""
    return seen(desk), desk.trial(lambda one: again(one))


def again(desk):
    """What the desk tells after each further redo."""
    found = []
    while raised(desk.redo)[0] == "returned":
        found.append(seen(desk))
    return found


class Model:
    """A desk that is told by its words: each state is a tuple, and all of them are kept."""

    def __init__(self, book, counts, prices):
        self.states = [(book, list(counts), list(counts), [pair(exact(price)) for price in prices], [], 0)]
        self.at = 0

    def now(self):
        return self.states[self.at]

    def add(self, entry, **changes):
        book, counts, mark, prices, log, since = self.now()
        new = {"book": book, "counts": counts, "mark": mark, "prices": prices, "since": since}
        new.update(changes)
        self.states = self.states[:self.at + 1]
        self.states.append((new["book"], new["counts"], new["mark"], new["prices"], log + [entry], new["since"]))
        self.at += 1

    def seen(self):
        book, counts, mark, prices, log, since = self.now()
        means = exacts(mean(book, mark, since)) if since <= 200 else []
        surplus = pairs([count - number for count, number in zip(counts, means)]) if since <= 200 else None
        return [book, counts, mark, prices, log, since, gaps_of(book, counts), pair(dot(exacts(prices), counts)),
                len(book), counts, [count > 0 for count in counts], surplus]


class TestStart(unittest.TestCase):
    def test_known_values(self):
        """[14.1] The mark is the given standing; without prices each kind has the price 1."""
        desk = Desk(twin(), [1, 1])
        self.assertEqual([desk.book(), desk.standing(), desk.marked()], [twin(), [1, 1], [1, 1]])
        self.assertEqual([desk.prices, desk.log(), desk.since()], [[(1, 1), (1, 1)], [], 0])
        self.assertEqual([desk.gaps(), desk.worth(), len(desk)], [5, (2, 1), 2])
        desk = Desk(prices=[(2, 4), -3], counts=[0, 5], book=twin())
        self.assertEqual([desk.prices, desk.worth(), desk.standing()], [[(1, 2), (-3, 1)], (-15, 1), [0, 5]])
        self.assertEqual(Desk(twin(), [1, 1], prices=None).prices, [(1, 1), (1, 1)])
        self.assertEqual([Desk(lone(), [MILLION]).standing(), len(Desk(six(), [1] * 6))], [[MILLION], 6])

    def test_wrong_standings(self):
        """[14.1] A short standing."""
        for counts in no_lists() + [[], [1], [1, 1, 1], [0, 0]]:
            self.assertEqual(raised(Desk, twin(), counts), ("InvalidStanding", -1))
        for entry in [-1, MILLION + 1, DIGITS_4000] + no_integers():
            self.assertEqual(raised(Desk, twin(), [entry, 1]), ("InvalidStanding", 0))
            self.assertEqual(raised(Desk, twin(), [1, entry]), ("InvalidStanding", 1))

    def test_wrong_prices(self):
        """[14.1] None, or a list of as many fractions as the book has kinds, passed by name."""
        for prices in no_lists() + [[], [1], [1, 1, 1]] + [[1, price] for price in no_fractions()]:
            if prices is not None:
                self.assertEqual(raised(Desk, twin(), [1, 1], prices=prices), ("InvalidBound", "prices"))
        self.assertRaises(TypeError, lambda: Desk(twin(), [1, 1], [1, 1]))

    def test_sequence(self):
        """[0.8] [14.1] The standing, then the prices."""
        wrongs = [("counts", [0, 0], ("InvalidStanding", -1)), ("prices", [], ("InvalidBound", "prices"))]
        check_sequence(self, Desk, {"book": twin(), "counts": [1, 1], "prices": [1, 1]}, wrongs)


class TestDeeds(unittest.TestCase):
    def test_come(self):
        """[14.2] One coming; the number is 0 if it is not given."""
        desk = Desk(mixed(), [1, 1])
        self.assertIs(desk.come(0), None)
        self.assertEqual([desk.standing(), desk.since(), desk.marked()], [[0, 2], 1, [1, 1]])
        self.assertIs(desk.come(number=0, kind=1), None)
        self.assertIs(desk.come(0, 1), None)
        self.assertEqual([desk.standing(), desk.since(), desk.gaps()], [[2, 2], 3, 6])
        self.assertEqual(desk.log(), [("come", 0, 0), ("come", 1, 0), ("come", 0, 1)])

    def test_come_as_the_function_does(self):
        """[4.3] [14.2] The same standing and the same errors."""
        for book in all_books():
            for counts in standings(len(book)):
                for kind in list(range(-1, len(book) + 1)) + [None, True]:
                    for number in (-1, 0, 1, 3, None):
                        desk = Desk(book, counts)
                        expected = raised(come, book, counts, kind, number)
                        found = raised(desk.come, kind, number)
                        if expected[0] == "returned":
                            self.assertEqual([found, desk.standing()], [("returned", None), expected[1]])
                        else:
                            self.assertEqual([found, desk.standing(), desk.log()], [expected, counts, []])

    def test_come_with_any_values(self):
        """[0.9] [14.2] The kind and the number may be any values."""
        desk = Desk(mixed(), [1, 1])
        for worth in [-1, 2, DIGITS_4000, -DIGITS_4000] + no_integers():
            self.assertEqual(raised(desk.come, worth, None), ("InvalidBound", "kind"))
            self.assertEqual(raised(desk.come, 0, worth), ("InvalidBound", "number"))
        self.assertEqual([desk.log(), desk.standing()], [[], [1, 1]])

    def test_a_million_pages(self):
        """[14.2] LimitExceeded(1000000) if a count would be greater than 1,000,000."""
        desk = Desk(lone(), [MILLION - 1])
        desk.come(0)
        self.assertEqual([desk.standing(), raised(desk.come, 0)], [[MILLION], ("LimitExceeded", MILLION)])
        self.assertEqual([desk.standing(), desk.since(), len(desk.log())], [[MILLION], 1, 1])
        self.assertEqual(raised(desk.come, 1), ("InvalidBound", "kind"))
        desk = Desk(twin(), [MILLION, 1])
        self.assertEqual(raised(desk.come, 1), ("LimitExceeded", MILLION))
        self.assertEqual(raised(desk.run, [(1, 0)]), ("LimitExceeded", MILLION))
        self.assertEqual(raised(desk.run, [(0, 0), (0, 0), (1, 0)]), ("returned", None))
        self.assertEqual(desk.standing(), [MILLION, 2])

    def test_run(self):
        """[14.2] All picks of the list, one after another, as one deed."""
        desk = Desk(twin(), [1, 1])
        self.assertIs(desk.run([(0, 0), (1, 0)]), None)
        self.assertEqual([desk.standing(), desk.since()], [[2, 1], 2])
        self.assertIs(desk.run(picks=[]), None)
        self.assertEqual([desk.standing(), desk.since()], [[2, 1], 2])
        self.assertEqual(desk.log(), [("run", [(0, 0), (1, 0)]), ("run", [])])
        kept = desk
        desk += [(0, 0)]
        self.assertIs(desk, kept)
        self.assertEqual([desk.standing(), desk.since(), desk.log()[-1]], [[1, 2], 3, ("run", [(0, 0)])])
        desk.undo()
        self.assertEqual([desk.standing(), desk.since()], [[2, 1], 2])

    def test_run_in_a_list(self):
        """[14.2] [14.9] The sign works on items and attributes as well."""
        desks = [Desk(twin(), [1, 1])]
        kept = desks[0]
        desks[0] += [(0, 0)]
        self.assertIs(desks[0], kept)
        self.assertEqual(kept.standing(), [0, 2])

    def test_wrong_picks(self):
        """[4.5] [14.2] InvalidRow as `row` raises it for the whole list; nothing of the list is done."""
        desk = Desk(mixed(), [1, 1])
        for picks in no_lists():
            self.assertEqual(raised(desk.run, picks), ("InvalidRow", -1))
        for pick in no_integers() + [(0, 2), (2, 0), (-1, 0), (0, -1), (0, True), (True, 0), (0, 0, 0), [0, 0]]:
            if pick != (0, 1):
                self.assertEqual(raised(desk.run, [pick]), ("InvalidRow", 0))
                self.assertEqual(raised(desk.run, [(0, 0), (1, 0), pick, None]), ("InvalidRow", 2))
        self.assertEqual(raised(desk.run, [(0, 0), (0, 0)]), ("InvalidRow", 1))
        self.assertEqual([desk.standing(), desk.log(), desk.since()], [[1, 1], [], 0])

        def add(picks):
            nonlocal desk
            desk += picks
        self.assertEqual(raised(add, [(0, 0), (0, 0)]), ("InvalidRow", 1))
        self.assertEqual(raised(add, None), ("InvalidRow", -1))
        self.assertEqual([desk.standing(), desk.log()], [[1, 1], []])

    def test_1000_and_1001_picks(self):
        """[4.5] [14.2] A list has at most 1,000 picks."""
        desk = Desk(lone(), [1])
        desk += [(0, 0)] * 1000
        self.assertEqual([desk.standing(), desk.since()], [[1001], 1000])
        self.assertEqual(raised(desk.run, [(0, 0)] * 1001), ("InvalidRow", -1))
        self.assertEqual(raised(desk.surplus), ("LimitExceeded", 200))

    def test_a_million_pages_on_the_way(self):
        """[14.2] LimitExceeded after one of the comings, but after InvalidRow for the whole list."""
        book = Book([1, 2], [[(1, [0, 1])], [(1, [3, 0])]])
        desk = Desk(book, [MILLION - 2, 2])
        self.assertEqual(raised(desk.run, [(1, 0), (0, 0)]), ("LimitExceeded", MILLION))
        self.assertEqual(raised(desk.run, [(1, 0), (0, 0), (2, 0)]), ("InvalidRow", 2))
        self.assertEqual(raised(desk.run, [(0, 0), (1, 0), (0, 0)]), ("returned", None))
        self.assertEqual(desk.standing(), [MILLION - 1, 3])

    def test_set(self):
        """[14.2] [14.3] The count of a kind; the mark is the standing after it."""
        desk = Desk(twin(), [1, 1])
        desk.come(0)
        desk[0] = 5
        self.assertEqual([desk.standing(), desk.marked(), desk.since()], [[5, 2], [5, 2], 0])
        desk[1] = 0
        desk[0] = MILLION
        self.assertEqual([desk.standing(), desk.marked(), desk[0], desk[1]], [[MILLION, 0], [MILLION, 0], MILLION, 0])
        self.assertEqual(desk.log()[1:], [("set", 0, 5), ("set", 1, 0), ("set", 0, MILLION)])

    def test_wrong_sets(self):
        """[14.2] The kind, the number, then InvalidCall if all counts would be 0."""
        desk = Desk(twin(), [0, 2])

        def put(kind, many):
            desk[kind] = many
        for worth in [-1, 2, DIGITS_4000, -DIGITS_4000] + no_integers():
            self.assertEqual(raised(put, worth, None), ("InvalidBound", "kind"))
        for worth in [-1, MILLION + 1, DIGITS_4000, -DIGITS_4000] + no_integers():
            self.assertEqual(raised(put, 0, worth), ("InvalidBound", "many"))
            self.assertEqual(raised(put, 1, worth), ("InvalidBound", "many"))
        self.assertEqual(raised(put, 1, 0), ("InvalidCall", "set"))
        self.assertEqual(raised(put, 0, 0), ("returned", None))
        self.assertEqual([desk.standing(), desk.log()], [[0, 2], [("set", 0, 0)]])

    def test_set_rule(self):
        """[14.2] [14.3] Another lottery; the mark is the present standing."""
        desk = Desk(mixed(), [1, 1])
        desk.come(1)
        self.assertIs(desk.set_rule(0, [((1, 2), [2, 0]), ((2, 4), [0, 1])]), None)
        self.assertEqual(desk.book(), mixed().with_lottery(0, [((1, 2), [2, 0]), ((1, 2), [0, 1])]))
        self.assertEqual([desk.standing(), desk.marked(), desk.since()], [[2, 1], [2, 1], 0])
        expected = ("rule", 0, [((1, 2), [0, 1]), ((1, 2), [2, 0])])
        self.assertEqual(desk.log(), [("come", 1, 0), expected])
        desk.set_rule(lottery=[(1, [3, 0])], kind=1)
        self.assertEqual([desk.log()[2], desk.book()[1]], [("rule", 1, [((1, 1), [3, 0])]), [((1, 1), [3, 0])]])

    def test_wrong_rules(self):
        """[3.8] [14.2] The errors of with_lottery."""
        desk = Desk(mixed(), [1, 1])
        lotteries = no_lists() + [[], [(1, [2, 0])] * 5, [(1, [2, 1])], [(0, [2, 0])], [((1, 2), [2, 0])] * 2,
                                  [((1, 2), [2, 0])], [(1, [2])], [(1, [-2, 2])], [(1, None)], [None]]
        for kind in [0, 1, -1, 2, DIGITS_4000] + no_integers():
            for lottery in lotteries:
                expected = raised(mixed().with_lottery, kind, lottery)
                self.assertNotEqual(expected[0], "returned")
                self.assertEqual(raised(desk.set_rule, kind, lottery), expected)
        self.assertEqual([desk.log(), desk.book()], [[], mixed()])

    def test_set_prices(self):
        """[14.2] Both ways; the mark stays."""
        desk = Desk(twin(), [1, 1])
        desk.come(0)
        desk.prices = [(2, 4), -3]
        self.assertEqual([desk.prices, desk.worth()], [[(1, 2), (-3, 1)], (-6, 1)])
        self.assertEqual([desk.marked(), desk.since()], [[1, 1], 1])
        self.assertIs(desk.set_prices(prices=[(DIGITS_4000, 3), 0]), None)
        self.assertEqual(desk.prices, [pair(Fraction(DIGITS_4000, 3)), (0, 1)])
        self.assertEqual(desk.log()[1:], [("prices", [(1, 2), (-3, 1)]), ("prices", desk.prices)])

    def test_wrong_prices(self):
        """[14.2] None is not a list of prices here."""
        desk = Desk(twin(), [1, 1], prices=[2, 3])

        def put(prices):
            desk.prices = prices
        for prices in no_lists() + [[], [1], [1, 1, 1]] + [[1, price] for price in no_fractions()]:
            self.assertEqual(raised(desk.set_prices, prices), ("InvalidBound", "prices"))
            self.assertEqual(raised(put, prices), ("InvalidBound", "prices"))
        self.assertEqual([desk.prices, desk.log()], [[(2, 1), (3, 1)], []])

    def test_set_mark(self):
        """[14.2] The mark is the present standing."""
        desk = Desk(twin(), [1, 1])
        desk += [(0, 0), (1, 0)]
        self.assertEqual([desk.marked(), desk.since()], [[1, 1], 2])
        self.assertIs(desk.set_mark(), None)
        self.assertEqual([desk.marked(), desk.since(), desk.log()[-1]], [[2, 1], 0, ("mark",)])
        desk.come(0)
        self.assertEqual([desk.marked(), desk.since()], [[2, 1], 1])

    def test_what_is_already_so(self):
        """[14.3] A deed that sets what is already so is a deed like any other."""
        desk = Desk(twin(), [1, 1])
        desk[0] = 1
        desk.prices = [1, 1]
        desk.set_rule(0, [(1, [0, 1])])
        desk.set_mark()
        desk.run([])
        entries = [("set", 0, 1), ("prices", [(1, 1), (1, 1)]), ("rule", 0, [((1, 1), [0, 1])]), ("mark",), ("run", [])]
        self.assertEqual(desk.log(), entries)
        desk.undo(5)
        self.assertEqual([desk.log(), redoable(desk)], [[], 5])


class TestUndo(unittest.TestCase):
    def test_known_values(self):
        """[14.4] Everything is as it was before."""
        desk = Desk(twin(), [1, 1])
        desk += [(0, 0), (1, 0)]
        desk[0] = 5
        self.assertIs(desk.undo(), None)
        self.assertEqual([desk.standing(), desk.marked(), desk.log(), 1 in desk],
                         [[2, 1], [1, 1], [("run", [(0, 0), (1, 0)])], True])
        self.assertIs(desk.redo(), None)
        self.assertEqual([desk.standing(), desk.marked(), desk.since()], [[5, 1], [5, 1], 0])
        desk.undo(many=2)
        self.assertEqual([desk.standing(), desk.log()], [[1, 1], []])
        desk.redo(many=2)
        self.assertEqual(desk.standing(), [5, 1])

    def test_each_deed(self):
        """[14.4] The mark and the prices included."""
        deeds = [lambda desk: desk.come(1), lambda desk: desk.run([(0, 0), (0, 0)]),
                 lambda desk: desk.set_prices([7, 8]), lambda desk: desk.set_mark(),
                 lambda desk: desk.set_rule(1, [(1, [3, 0])]), lambda desk: desk.__setitem__(0, 9),
                 lambda desk: desk.come(1), lambda desk: desk.run([])]
        desk = Desk(mixed(), [1, 2])
        kept = [seen(desk)]
        for deed in deeds:
            deed(desk)
            kept.append(seen(desk))
        self.assertEqual(len({repr(state[1:4]) for state in kept}), 7)
        for many in range(len(deeds) + 1):
            desk.undo(many) if many else None
            self.assertEqual(seen(desk), kept[len(deeds) - many])
            self.assertEqual(redoable(desk), many)
            desk.redo(many) if many else None
            self.assertEqual(seen(desk), kept[-1])
        for state in kept[-2::-1]:
            desk.undo()
            self.assertEqual(seen(desk), state)
        for state in kept[1:]:
            desk.redo()
            self.assertEqual(seen(desk), state)

    def test_a_new_deed_removes_what_could_be_redone(self):
        """[14.4] Also one that changes nothing; a refused one does not."""
        for deed in (lambda desk: desk.come(0), lambda desk: desk.run([]), lambda desk: desk.set_mark(),
                     lambda desk: desk.set_prices([1, 1]), lambda desk: desk.__setitem__(0, 1),
                     lambda desk: desk.set_rule(0, [(1, [0, 1])])):
            desk = Desk(twin(), [1, 1])
            desk += [(0, 0)]
            desk.come(1)
            desk.undo(2)
            deed(desk)
            self.assertEqual([redoable(desk), len(desk.log())], [0, 1])
            self.assertEqual(raised(desk.redo), ("InvalidCall", "redo"))

    def test_refused_deeds_between(self):
        """[14.3] [14.4] They change nothing, also not what can be redone."""
        desk = Desk(twin(), [MILLION, 1])
        desk.come(0)
        desk.set_prices([2, 5])
        desk.undo(2)
        kept = whole(desk)
        for deed in (lambda: desk.come(2), lambda: desk.come(0, 1), lambda: desk.come(1), lambda: desk.run([(1, 0)]),
                     lambda: desk.run([(0, 0), None]), lambda: desk.run(None), lambda: desk.__setitem__(2, 1),
                     lambda: desk.__setitem__(0, MILLION + 1), lambda: desk.set_rule(0, []),
                     lambda: desk.set_rule(9, []), lambda: desk.set_prices([1]), lambda: desk.undo(),
                     lambda: desk.undo(0), lambda: desk.redo(3), lambda: desk.redo(None), lambda: desk[2],
                     lambda: desk.ahead(201), lambda: desk.room(13)):
            self.assertNotEqual(raised(deed)[0], "returned")
            self.assertEqual(whole(desk), kept)
        desk.redo(2)
        self.assertEqual([desk.standing(), desk.prices], [[MILLION - 1, 2], [(2, 1), (5, 1)]])

    def test_wrong_numbers(self):
        """[14.4] An integer of at least 1, then as many as there are."""
        desk = Desk(twin(), [1, 1])
        desk.come(0)
        desk.come(1)
        desk.undo()
        for many in [0, -1, -DIGITS_4000] + no_integers():
            self.assertEqual(raised(desk.undo, many), ("InvalidBound", "many"))
            self.assertEqual(raised(desk.redo, many), ("InvalidBound", "many"))
        for many in (2, 3, DIGITS_4000):
            self.assertEqual(raised(desk.undo, many), ("InvalidCall", "undo"))
            self.assertEqual(raised(desk.redo, many), ("InvalidCall", "redo"))
        self.assertEqual([desk.standing(), len(desk.log()), redoable(desk)], [[0, 2], 1, 1])

    def test_long_logs(self):
        """[14.4] Many deeds."""
        desk = Desk(twin(), [1, 1])
        for _ in range(6000):
            desk.come(0 if 0 in desk else 1)
            desk.set_mark()
        self.assertEqual([len(desk.log()), desk.gaps()], [12000, 6005])
        kept = seen(desk)
        desk.undo(11999)
        self.assertEqual([desk.standing(), desk.log()], [[0, 2], [("come", 0, 0)]])
        desk.redo(11999)
        self.assertEqual(seen(desk), kept)


class TestTells(unittest.TestCase):
    def test_items(self):
        """[14.5] The count of a kind, for any value as kind."""
        desk = Desk(mixed(), [0, 7])
        self.assertEqual([desk[0], desk[1], 0 in desk, 1 in desk], [0, 7, False, True])
        for worth in [-1, 2, DIGITS_4000, -DIGITS_4000] + no_integers():
            self.assertEqual(raised(lambda: desk[worth]), ("InvalidBound", "kind"))
            self.assertIs(worth in desk, False)
        self.assertIs(desk in desk, False)

    def test_it_cannot_be_iterated_over(self):
        """[14.9] Iterating raises a TypeError."""
        desk = Desk(twin(), [1, 1])
        for call in (lambda: iter(desk), lambda: list(desk), lambda: [kind for kind in desk], lambda: sum(desk)):
            self.assertRaises(TypeError, call)

    def test_new_lists(self):
        """[0.6] [14.5] What it returns is new at each call, and what it was passed is copied."""
        counts, prices, picks, lottery = [1, 2], [(2, 4), 3], [(1, 0)], [(1, [3, 0])]
        desk = Desk(mixed(), counts, prices=prices)
        desk += picks
        desk.set_rule(1, lottery)
        desk.set_prices(prices)
        kept = copy.deepcopy(seen(desk)[1:])
        counts.append(1)
        prices.clear()
        picks.append(None)
        lottery[0][1][0] = 9
        desk.standing().clear()
        desk.marked().append(1)
        desk.prices.clear()
        desk.prices[0] = None
        desk.surplus().clear()
        desk.ahead(2).clear()
        desk.book()[1].clear()
        for entry in desk.log():
            for part in entry:
                if isinstance(part, list):
                    for line in part:
                        if isinstance(line, tuple) and isinstance(line[1], list):
                            line[1].clear()
                    part.clear()
        desk.log().clear()
        self.assertEqual(seen(desk)[1:], kept)
        self.assertEqual([desk.log()[0][1], desk.log()[1][2]], [[(1, 0)], [((1, 1), [3, 0])]])

    def test_kinds_of_values(self):
        """[14.2] [14.5] The entries of the log are tuples, with lists of tuples inside."""
        desk = Desk(mixed(), [1, 2])
        desk += [(1, 0)]
        desk.set_prices([(2, 4), 3])
        desk.set_rule(1, [(1, [3, 0])])
        self.assertEqual([type(entry) for entry in desk.log()], [tuple] * 3)
        self.assertEqual([type(desk.log()), type(desk.log()[0][1]), type(desk.log()[1][1])], [list] * 3)
        self.assertEqual([type(desk.prices), type(desk.standing()), type(desk.marked())], [list] * 3)

    def test_worth(self):
        """[14.6] The value of the present standing at the present prices."""
        for book in all_books():
            counts, prices = [k + 1 for k in range(len(book))], [(k - 2, k + 3) for k in range(len(book))]
            self.assertEqual(Desk(book, counts, prices=prices).worth(), value(book, prices, counts))

    def test_ahead(self):
        """[14.6] The means after n further comings, with the error for n."""
        desk = Desk(mixed(), [1, 2])
        desk.come(1)
        for n in (0, 1, 7, 200):
            self.assertEqual(desk.ahead(n), mean(mixed(), [2, 2], n))
        self.assertEqual(desk.ahead(n=3), mean(mixed(), [2, 2], 3))
        for n in [-1, 201, DIGITS_4000, -DIGITS_4000] + no_integers():
            self.assertEqual(raised(desk.ahead, n), ("InvalidBound", "n"))

    def test_room(self):
        """[14.6] The least and the greatest value, as `extreme` gives them."""
        for book in all_books():
            prices = [(-1) ** k * (k + 1) for k in range(len(book))]
            desk = Desk(book, [2] * len(book), prices=prices)
            for n in (0, 1, 3):
                least = extreme(book, [2] * len(book), prices, n, side="fewest")[0]
                self.assertEqual(desk.room(n), (least, extreme(book, [2] * len(book), prices, n)[0]))
                self.assertEqual(type(desk.room(n=n)), tuple)
        desk = Desk(twin(), [1, 0])
        self.assertEqual([desk.room(4), desk.room(12)[0][1]], [((2, 1), (3, 1)), 1])

    def test_room_errors(self):
        """[14.6] InvalidBound("n") and LimitExceeded(2000)."""
        desk = Desk(twin(), [1, 1])
        for n in [-1, 13, DIGITS_4000, -DIGITS_4000] + no_integers():
            self.assertEqual(raised(desk.room, n), ("InvalidBound", "n"))
        book, counts, _ = wide(FULL)
        desk = Desk(book, counts)
        self.assertEqual([raised(desk.room, 11)[0], raised(desk.room, 12)], ["returned", ("LimitExceeded", 2000)])
        self.assertEqual(raised(desk.room, 13), ("InvalidBound", "n"))
        book, counts, _ = wide(DIPPING)
        self.assertEqual(raised(Desk(book, counts).room, 12), ("LimitExceeded", 2000))


class TestSurplus(unittest.TestCase):
    def test_known_values(self):
        """[14.7] The counts less the means after as many comings from the mark."""
        desk = Desk(twin(), [1, 1])
        desk.come(1)
        self.assertEqual([desk.standing(), desk.since(), desk.surplus()], [[3, 0], 1, [(6, 5), (-4, 5)]])
        self.assertEqual([desk.room(1), desk.gaps()], [((3, 1), (3, 1)), 6])

    def test_against_the_means(self):
        """[14.7] After rows of comings, with a mark and another lottery between."""
        for book in all_books():
            desk = Desk(book, [3] * len(book))
            for kind in range(len(book)):
                if kind in desk:
                    desk.come(kind, len(book[kind]) - 1)
                    desk.run([(kind, 0)] if kind in desk else [])
                if kind == 2:
                    desk.set_mark()
                expected = exacts(mean(desk.book(), desk.marked(), desk.since()))
                found = exacts(desk.surplus())
                self.assertEqual(found, [a - b for a, b in zip(desk.standing(), expected)])
                self.assertEqual(dot(book.weights(), found), 0)

    def test_the_present_book(self):
        """[14.7] The means are those of the present book, from the mark that was set with its lottery."""
        desk = Desk(mixed(), [3, 3])
        desk.come(0)
        desk.set_rule(1, [(1, [3, 0])])
        self.assertEqual([desk.since(), desk.surplus()], [0, [(0, 1), (0, 1)]])
        desk.come(1)
        expected = exacts(mean(mixed().with_lottery(1, [(1, [3, 0])]), [2, 4], 1))
        self.assertEqual(exacts(desk.surplus()), [a - b for a, b in zip([5, 3], expected)])

    def test_since(self):
        """[14.7] One for each `come`, the length of the list for each `run`, of those that stand."""
        desk = Desk(lone(), [1])
        found = []
        for deed in (lambda: desk.come(0), lambda: desk.run([(0, 0)] * 7), lambda: desk.set_prices([2]),
                     lambda: desk.run([]), lambda: desk.undo(3), lambda: desk.redo(), lambda: desk.set_mark(),
                     lambda: desk.come(0), lambda: desk.undo(2), lambda: desk.redo(2),
                     lambda: desk.set_rule(0, [(1, [2])]), lambda: desk.run([(0, 0)] * 3),
                     lambda: desk.__setitem__(0, 4), lambda: desk.undo(2)):
            deed()
            found.append(desk.since())
        self.assertEqual(found, [1, 8, 8, 8, 1, 8, 0, 1, 8, 1, 0, 3, 0, 0])

    def test_200_and_201(self):
        """[14.7] LimitExceeded(200) if more than 200 have arrived."""
        desk = Desk(twin(), [1, 1])
        for _ in range(200):
            desk.come(0 if 0 in desk else 1)
        self.assertEqual([desk.since(), dot([2, 3], exacts(desk.surplus()))], [200, 0])
        desk.come(0 if 0 in desk else 1)
        self.assertEqual([desk.since(), raised(desk.surplus)], [201, ("LimitExceeded", 200)])
        desk.set_mark()
        self.assertEqual(desk.surplus(), [(0, 1), (0, 1)])
        desk.undo(2)
        self.assertEqual(len(desk.surplus()), 2)


class TestTrial(unittest.TestCase):
    def test_known_values(self):
        """[14.8] The result of the work; afterwards all is as before."""
        desk = Desk(twin(), [1, 1])
        desk.come(0)
        kept = whole(desk)

        def work(one):
            self.assertIs(one, desk)
            one.come(1)
            one[0] = 9
            return one.standing(), one.log()
        self.assertEqual(desk.trial(work), ([9, 1], [("come", 0, 0), ("come", 1, 0), ("set", 0, 9)]))
        self.assertEqual(whole(desk), kept)
        self.assertIs(desk.trial(work=lambda one: None), None)

    def test_every_deed(self):
        """[14.8] Whatever the work does, undo and redo too."""
        works = [
            lambda one: one.undo(2), lambda one: one.redo(), lambda one: one.set_mark(), lambda one: one.run([]),
            lambda one: one.set_prices([0, 0]), lambda one: one.set_rule(0, [(1, [0, 1])]), lambda one: one.undo(1),
            lambda one: one.__setitem__(1, 77), lambda one: (one.undo(2), one.come(1), one.come(1)),
            lambda one: (one.redo(), one.undo(3), one.set_mark()), lambda one: one.__iadd__([(1, 0)]),
            lambda one: setattr(one, "prices", [3, 4]), lambda one: (one.undo(2), one.redo(3)),
        ]
        desk = Desk(mixed(), [1, 1], prices=[2, 3])
        desk.come(0)
        desk.set_prices([5, 6])
        desk.come(1)
        desk.undo()
        kept = whole(desk)
        self.assertEqual(redoable(desk), 1)
        for work in works:
            desk.trial(work)
            self.assertEqual(whole(desk), kept)
        desk.redo()
        self.assertEqual(desk.standing(), [1, 2])

    def test_errors_are_passed_on(self):
        """[14.8] Also if the work raises an error; the error is passed on."""
        desk = Desk(twin(), [1, 1])
        desk.come(0)
        desk.come(1)
        desk.undo()
        kept = whole(desk)
        for error in (ValueError("x"), ZeroDivisionError(), InvalidBound("side"), KeyboardInterrupt(), SystemExit(3)):
            def work(one):
                one.undo()
                one.set_mark()
                raise error
            with self.assertRaises(error.__class__) as caught:
                desk.trial(work)
            self.assertIs(caught.exception, error)
            self.assertEqual(whole(desk), kept)
        self.assertEqual(raised(desk.trial, lambda one: one.come(9)), ("InvalidBound", "kind"))
        self.assertEqual(raised(desk.trial, lambda one: (one.come(1), one.come(0, 5))), ("InvalidBound", "number"))
        self.assertEqual(whole(desk), kept)

    def test_nested(self):
        """[14.8] Up to 20 deep, on the same desk and on another one."""
        one, other = Desk(lone(), [1]), Desk(lone(), [50])

        def work(desk, depth):
            desk.come(0)
            before = whole(desk)
            found = [desk.standing()[0]]
            if depth > 1:
                next_desk = one if desk is other else other
                found += next_desk.trial(lambda it: work(it, depth - 1))
                found += [desk.trial(lambda it: (it.run([(0, 0)] * 3), it.since())[1])]
            self.assertEqual(whole(desk), before)
            return found

        kept = [whole(one), whole(other)]
        self.assertEqual(one.trial(lambda it: work(it, 20))[:4], [2, 51, 3, 52])
        self.assertEqual([whole(one), whole(other)], kept)

        def deeper(desk, depth):
            desk.come(0)
            before = seen(desk)
            if depth > 1:
                self.assertEqual(desk.trial(lambda it: deeper(it, depth - 1)), depth - 1)
            self.assertEqual(seen(desk), before)
            self.assertEqual(desk.since(), 21 - depth)
            return depth
        self.assertEqual(one.trial(lambda it: deeper(it, 20)), 20)
        self.assertEqual([whole(one), whole(other)], kept)

    def test_nested_with_errors(self):
        """[14.8] An error that the outer work catches leaves the inner trial undone."""
        desk = Desk(twin(), [1, 1])

        def inner(one):
            one.come(0)
            one.come(0)

        def outer(one):
            one.come(1)
            try:
                one.trial(inner)
            except ShareError:
                pass
            return one.standing(), one.log()
        self.assertEqual(desk.trial(outer), ([3, 0], [("come", 1, 0)]))
        desk.come(0)
        self.assertEqual(raised(desk.trial, inner), ("InvalidCall", "kind"))
        self.assertEqual([desk.standing(), desk.log()], [[0, 2], [("come", 0, 0)]])

    def test_undo_below_the_trial(self):
        """[14.8] The work may undo what was done before the trial, and do other things."""
        desk = Desk(twin(), [1, 1])
        for _ in range(3):
            desk.set_mark()

        def work(one):
            one.undo(3)
            one.come(0)
            self.assertEqual(raised(one.redo), ("InvalidCall", "redo"))
            return one.log()
        self.assertEqual(desk.trial(work), [("come", 0, 0)])
        self.assertEqual(desk.log(), [("mark",)] * 3)
        desk.undo(3)
        desk.redo(3)
        self.assertEqual(desk.log(), [("mark",)] * 3)


class TestTwoDesks(unittest.TestCase):
    def test_they_do_not_influence_one_another(self):
        """[14.9] Also when they are created from the same book and list."""
        book, counts, prices = mixed(), [1, 1], [2, 3]
        one, other = Desk(book, counts, prices=prices), Desk(book, counts, prices=prices)
        kept = whole(other)
        one.come(0)
        one.set_rule(0, [(1, [2, 0])])
        one.prices = [7, 7]
        one[1] = 9
        one.set_mark()
        one.undo(2)
        self.assertEqual(whole(other), kept)
        self.assertEqual([book, counts, prices], [mixed(), [1, 1], [2, 3]])
        made = Desk(one.book(), one.standing(), prices=one.prices)
        kept = whole(one)
        made.come(1)
        made.set_rule(0, [(1, [0, 1])])
        self.assertEqual(whole(one), kept)

    def test_deeds_return_none(self):
        """[14.9] The deeds, undo and redo return None."""
        desk = Desk(twin(), [1, 1])
        found = [desk.come(0), desk.run([(1, 0)]), desk.set_rule(0, [(1, [0, 1])]), desk.set_prices([1, 2]),
                 desk.set_mark(), desk.undo(), desk.redo(), desk.__setitem__(0, 3)]
        self.assertEqual(found, [None] * 8)


class TestAgainstTheModel(unittest.TestCase):
    def step(self, rng, desk, model):
        """One random deed on both; the desk may refuse it."""
        book, counts, *_ = model.now()
        kind, word = rng.randrange(len(book)), rng.randrange(9)
        if word <= 2:
            number = rng.randrange(len(book[kind]) + 1)
            if raised(desk.come, kind, number)[0] == "returned":
                model.add(("come", kind, number), counts=come(book, counts, kind, number), since=model.now()[5] + 1)
        elif word == 3:
            picks, after = [], list(counts)
            for _ in range(rng.randrange(4)):
                there = [k for k, count in enumerate(after) if count]
                pick = (rng.choice(there), 0)
                after = come(book, after, *pick)
                picks.append(pick)
            desk += picks
            model.add(("run", picks), counts=after, since=model.now()[5] + len(picks))
        elif word == 4:
            many = rng.randrange(4)
            after = counts[:kind] + [many] + counts[kind + 1:]
            if any(after):
                desk[kind] = many
                model.add(("set", kind, many), counts=after, mark=after, since=0)
        elif word == 5:
            lottery = [(1, rng.choice(book[kind])[1])]
            desk.set_rule(kind, lottery)
            new = book.with_lottery(kind, lottery)
            model.add(("rule", kind, new[kind]), book=new, mark=counts, since=0)
        elif word == 6:
            prices = [(rng.randrange(-5, 5), rng.randrange(1, 5)) for _ in counts]
            desk.prices = prices
            kept = [pair(exact(price)) for price in prices]
            model.add(("prices", kept), prices=kept)
        elif word == 7:
            desk.set_mark()
            model.add(("mark",), mark=counts, since=0)
        else:
            self.back_and_forth(rng, desk, model)

    def back_and_forth(self, rng, desk, model):
        many = rng.randrange(1, 5)
        if rng.random() < 0.6:
            expected = ("returned", None) if many <= model.at else ("InvalidCall", "undo")
            self.assertEqual(raised(desk.undo, many), expected)
            model.at -= many if many <= model.at else 0
        else:
            left = len(model.states) - 1 - model.at
            expected = ("returned", None) if many <= left else ("InvalidCall", "redo")
            self.assertEqual(raised(desk.redo, many), expected)
            model.at += many if many <= left else 0

    def trial(self, rng, desk, model, depth):
        """A trial of random deeds, perhaps with an error at its end, that has to leave no trace."""
        def work(one):
            inner = Model(*model.now()[:2], [1] * len(desk))
            inner.states, inner.at = list(model.states), model.at
            for _ in range(4):
                self.step(rng, one, inner)
                self.assertEqual(seen(one), inner.seen())
            if depth < 3:
                self.trial(rng, one, inner, depth + 1)
            if rng.random() < 0.3:
                raise InvalidBound("stop")
        self.assertIn(raised(desk.trial, work), [("returned", None), ("InvalidBound", "stop")])

    def test_random_deeds(self):
        """[14.2] to [14.9] Random deeds, undos, redos and trials, against a model that keeps every state."""
        for seed in range(12):
            rng = random.Random(seed)
            for book in (mixed(), books()[5], six(), books()[4]):
                counts = [rng.randrange(3) for _ in range(len(book) - 1)] + [2]
                prices = [(1, k + 1) for k in range(len(book))]
                desk, model = Desk(book, counts, prices=prices), Model(book, counts, prices)
                for _ in range(40):
                    self.step(rng, desk, model)
                    self.assertEqual(seen(desk), model.seen())
                    if rng.random() < 0.1:
                        self.trial(rng, desk, model, 1)
                        self.assertEqual(seen(desk), model.seen())
                        self.assertEqual(redoable(desk), len(model.states) - 1 - model.at)


if __name__ == "__main__":
    unittest.main()
