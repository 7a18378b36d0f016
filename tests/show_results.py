"""Print what many calls return or raise, the same lines under each Python; .ci/run compares them."""

from itertools import permutations

from pageshares.amounts import added, fraction, is_fraction, is_less, multiplied, subtracted
from pageshares.books import Book
from pageshares.coming import chances, come, gaps, row
from pageshares.limits import ends, finals, groups, has_limit, is_limit, limit, reached, rest, shares
from pageshares.means import mean, means, value
from pageshares.plain import factor, far_mean, is_plain, leading, part, roots, still
from pageshares.squares import settled_spreads, spread, spread_limit, squares
from tests.bank import all_books, standings
from tests.common import DIGITS_40, DIGITS_4000, books, no_fractions, no_integers, raised


def short(value):
    """A text of the value in which a long integer stands by its size and its rest only."""
    if isinstance(value, (list, tuple)):
        return [value.__class__.__name__] + [short(entry) for entry in value]
    if isinstance(value, int) and not isinstance(value, bool) and abs(value) > DIGITS_40:
        return f"{value.bit_length()} bits, {value % (10 ** 9 + 7)}"
    return value


def show(name, *told):
    print(name, repr(short(list(told))))


def show_amounts():
    values = [0, 1, -3, (2, 4), (-7, 101), DIGITS_40, (DIGITS_4000, 3 * DIGITS_40), (1, 0), (True, 2), None]
    for one in values:
        show("fraction", is_fraction(one), raised(fraction, one))
        for other in values:
            for call in (added, subtracted, multiplied, is_less):
                show(call.__name__, raised(call, one, other))


def show_book(book):
    kinds = range(len(book))
    show("weights", book.weights(), book.is_sure(), book.matrix())
    for kind in kinds:
        show("kind", book[kind], book.mean_outcome(kind))
    for order in list(permutations(kinds))[:24]:
        new = book.renamed(list(order))
        show("renamed", new.weights(), [new[kind] for kind in kinds], new == book)


def show_wrong_books():
    for value in no_integers():
        show("wrong", raised(Book, value, []), raised(Book, [value], []), raised(Book, [1], [value]))
        show("wrong", raised(Book, [1], [[value]]), raised(Book, [1], [[(1, value)]]))
    for value in no_fractions():
        show("wrong", raised(Book, [1], [[(value, [2])]]))


def show_comings(book):
    for counts in ([1] * len(book), [DIGITS_40] * len(book), [DIGITS_4000] + [0] * (len(book) - 1)):
        show("gaps", gaps(book, counts), chances(book, counts))
        for kind in range(-1, len(book) + 1):
            for number in range(-1, 5):
                picks = [(kind, number)] * 3
                show("come", raised(come, book, counts, kind, number), raised(lambda: list(row(book, counts, picks))))


def show_means(book, counts):
    prices = [(k - 2, k + 1) for k in range(len(book))]
    for n in (-1, 0, 1, 20, 60, 200, 201):
        show("mean", raised(mean, book, counts, n), raised(rest, book, counts, n), raised(shares, book, counts, n))
        show("squares", raised(squares, book, counts, n), raised(spread, book, counts, prices, n))
    show("means", [value(book, prices, vector) for vector in means(book, counts, 20)])


def show_far(book, counts):
    show("ends", raised(ends, book, counts), raised(still, book, counts), raised(leading, book, counts))
    for n in (0, 5, 10 ** 40):
        show("far", raised(far_mean, book, counts, n))


def show_limits(book):
    prices = [(k - 2, k + 1) for k in range(len(book))]
    show("limit", has_limit(book), raised(limit, book), groups(book), finals(book), is_limit(book, prices))
    show("reached", [raised(reached, book, kind) for kind in range(-1, len(book) + 1)])
    show("roots", roots(book), is_plain(book), [raised(part, book, root) for root in range(-26, 3)])
    show("settled", raised(settled_spreads, book), raised(spread_limit, book, prices))


def show_factors():
    for root in range(-26, 3):
        for start in (0, 1, 7, 26, DIGITS_40):
            show("factor", [raised(factor, root, start, n) for n in (-1, 0, 1, 9, 30, 10 ** 40, 10 ** 40 + 1)])


def show_wrong_values():
    book = books()[0]
    for wrong in no_fractions():
        show("wrong", raised(mean, book, [1, wrong], 0), raised(mean, book, [1, 0], wrong), raised(ends, book, wrong))
        show("wrong", raised(squares, book, wrong, 0), raised(spread, book, [1, 0], [1, wrong], 0))
        show("wrong", raised(value, book, wrong, [1, 1]), raised(value, book, [1, 1], [wrong, 1]))
        show("wrong", raised(part, book, wrong), raised(factor, 0, wrong, 1), raised(reached, book, wrong))
        show("wrong", is_limit(book, wrong), raised(spread_limit, book, wrong), raised(far_mean, book, [1, 0], wrong))


if __name__ == "__main__":
    show_amounts()
    show_wrong_books()
    for each in books():
        show_book(each)
        show_comings(each)
    show_factors()
    show_wrong_values()
    for each in all_books():
        show_limits(each)
        for some in standings(len(each)):
            show_means(each, some)
            show_far(each, some)
        show_far(each, [DIGITS_4000] * len(each))
