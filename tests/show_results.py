"""Print what many calls return or raise, the same lines under each Python; .ci/run compares them."""

from itertools import permutations

from pageshares.amounts import added, fraction, is_fraction, is_less, multiplied, subtracted
from pageshares.books import Book
from pageshares.coming import chances, come, gaps, row
from tests.common import DIGITS_40, DIGITS_4000, books, no_fractions, no_integers, raised


def short(value):
    """A text of the value in which a long integer stands by its size and its rest only."""
    if isinstance(value, (list, tuple)):
        return [value.__class__.__name__] + [short(entry) for entry in value]
    if isinstance(value, int) and not isinstance(value, bool) and abs(value) > DIGITS_40:
        return f"{value.bit_length()} bits, {value % (10 ** 9 + 7)}"
    return value


def show(name, *told):
    print(name, repr(short(list(told))))


def show_amounts():
    values = [0, 1, -3, (2, 4), (-7, 101), DIGITS_40, (DIGITS_4000, 3 * DIGITS_40), (1, 0), (True, 2), None]
    for one in values:
        show("fraction", is_fraction(one), raised(fraction, one))
        for other in values:
            for call in (added, subtracted, multiplied, is_less):
                show(call.__name__, raised(call, one, other))


def show_book(book):
    kinds = range(len(book))
    show("weights", book.weights(), book.is_sure(), book.matrix())
    for kind in kinds:
        show("kind", book[kind], book.mean_outcome(kind))
    for order in list(permutations(kinds))[:24]:
        new = book.renamed(list(order))
        show("renamed", new.weights(), [new[kind] for kind in kinds], new == book)


def show_wrong_books():
    for value in no_integers():
        show("wrong", raised(Book, value, []), raised(Book, [value], []), raised(Book, [1], [value]))
        show("wrong", raised(Book, [1], [[value]]), raised(Book, [1], [[(1, value)]]))
    for value in no_fractions():
        show("wrong", raised(Book, [1], [[(value, [2])]]))


def show_comings(book):
    for counts in ([1] * len(book), [DIGITS_40] * len(book), [DIGITS_4000] + [0] * (len(book) - 1)):
        show("gaps", gaps(book, counts), chances(book, counts))
        for kind in range(-1, len(book) + 1):
            for number in range(-1, 5):
                picks = [(kind, number)] * 3
                show("come", raised(come, book, counts, kind, number), raised(lambda: list(row(book, counts, picks))))


if __name__ == "__main__":
    show_amounts()
    show_wrong_books()
    for each in books():
        show_book(each)
        show_comings(each)
