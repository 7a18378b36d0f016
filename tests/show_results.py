"""Print what many calls return or raise, the same lines under each Python; .ci/run compares them."""

from itertools import permutations

from pageshares.amounts import added, fraction, is_fraction, is_less, multiplied, subtracted
from pageshares.books import Book
from pageshares.coming import chances, come, gaps, row
from pageshares.compared import difference, is_never, never_above, numerator, same_chances, same_means
from pageshares.desk import Desk
from pageshares.extremes import SIDES, bound_value, cycle, extreme, is_bound, needs, use_rate
from pageshares.fitting import fitted_hold, is_refusal
from pageshares.histories import between, chance_at_least, chance_of, histories, likeliest, whole
from pageshares.holds import begin, hold_matrix, is_hold, norm, share_bound, simple_hold, within
from pageshares.limits import ends, finals, groups, has_limit, is_limit, limit, reached, rest, shares
from pageshares.means import mean, means, value
from pageshares.plain import factor, far_mean, is_plain, leading, part, roots, still
from pageshares.rates import rate
from pageshares.squares import settled_spreads, spread, spread_limit, squares
from pageshares.texts import read_book, read_hold, read_standing, show_book, show_hold, show_standing
from tests.bank import all_books, standings
from tests.common import DIGITS_40, DIGITS_4000, books, no_fractions, no_integers, raised


def short(value):
    """A text of the value in which a long integer stands by its size and its rest only."""
    if isinstance(value, (list, tuple)):
        return [value.__class__.__name__] + [short(entry) for entry in value]
    if isinstance(value, int) and not isinstance(value, bool) and abs(value) > DIGITS_40:
        return f"{value.bit_length()} bits, {value % (10 ** 9 + 7)}"
    return value


def show(name, *told):
    print(name, repr(short(list(told))))


def show_amounts():
    values = [0, 1, -3, (2, 4), (-7, 101), DIGITS_40, (DIGITS_4000, 3 * DIGITS_40), (1, 0), (True, 2), None]
    for one in values:
        show("fraction", is_fraction(one), raised(fraction, one))
        for other in values:
            for call in (added, subtracted, multiplied, is_less):
                show(call.__name__, raised(call, one, other))


def show_kinds(book):
    kinds = range(len(book))
    show("weights", book.weights(), book.is_sure(), book.matrix())
    for kind in kinds:
        show("kind", book[kind], book.mean_outcome(kind))
    for order in list(permutations(kinds))[:24]:
        new = book.renamed(list(order))
        show("renamed", new.weights(), [new[kind] for kind in kinds], new == book)


def show_wrong_books():
    for value in no_integers():
        show("wrong", raised(Book, value, []), raised(Book, [value], []), raised(Book, [1], [value]))
        show("wrong", raised(Book, [1], [[value]]), raised(Book, [1], [[(1, value)]]))
    for value in no_fractions():
        show("wrong", raised(Book, [1], [[(value, [2])]]))


def show_comings(book):
    for counts in ([1] * len(book), [DIGITS_40] * len(book), [DIGITS_4000] + [0] * (len(book) - 1)):
        show("gaps", gaps(book, counts), chances(book, counts))
        for kind in range(-1, len(book) + 1):
            for number in range(-1, 5):
                picks = [(kind, number)] * 3
                show("come", raised(come, book, counts, kind, number), raised(lambda: list(row(book, counts, picks))))


def show_means(book, counts):
    prices = [(k - 2, k + 1) for k in range(len(book))]
    for n in (-1, 0, 1, 20, 60, 200, 201):
        show("mean", raised(mean, book, counts, n), raised(rest, book, counts, n), raised(shares, book, counts, n))
        show("squares", raised(squares, book, counts, n), raised(spread, book, counts, prices, n))
    show("means", [value(book, prices, vector) for vector in means(book, counts, 20)])


def show_far(book, counts):
    show("ends", raised(ends, book, counts), raised(still, book, counts), raised(leading, book, counts))
    for n in (0, 5, 10 ** 40):
        show("far", raised(far_mean, book, counts, n))


def show_limits(book):
    prices = [(k - 2, k + 1) for k in range(len(book))]
    show("limit", has_limit(book), raised(limit, book), groups(book), finals(book), is_limit(book, prices))
    show("reached", [raised(reached, book, kind) for kind in range(-1, len(book) + 1)])
    show("roots", roots(book), is_plain(book), [raised(part, book, root) for root in range(-26, 3)])
    show("settled", raised(settled_spreads, book), raised(spread_limit, book, prices))


def show_factors():
    for root in range(-26, 3):
        for start in (0, 1, 7, 26, DIGITS_40):
            show("factor", [raised(factor, root, start, n) for n in (-1, 0, 1, 9, 30, 10 ** 40, 10 ** 40 + 1)])


def show_histories(book, counts):
    prices = [(k - 2, k + 1) for k in range(len(book))]
    for n in (-1, 0, 4, 11, 61):
        show("whole", raised(whole, book, counts, n), raised(likeliest, book, counts, n))
        show("goal", raised(chance_of, book, counts, n, counts), raised(histories, book, counts, n, counts))
        show("at least", raised(chance_at_least, book, counts, n, prices, 1))
    for goal, _ in whole(book, counts, 2):
        show("between", [raised(between, book, counts, m, 2, goal) for m in range(-1, 4)])
        show("goal", chance_of(book, counts, 2, goal), raised(histories, book, counts, 2, goal))


def show_holds(book):
    many = len(book)
    show("simple", simple_hold(book))
    for scale in ([1] * many, [k + 1 for k in range(many)], [(7, k + 2) for k in range(many)], book.weights()):
        word, found = fitted_hold(book, scale)
        show("fitted", word, found, is_hold(book, (scale, found)), is_refusal(book, scale, found))
        hold = (scale, found)
        show("hold", raised(hold_matrix, book, hold), raised(begin, book, hold), raised(norm, book, hold, [1] * many))
        show("hold", raised(show_hold, book, hold))
        for start in (0, 3, 50):
            show("bound", raised(share_bound, book, [2] * many, hold, 0, start, 60))
            show("within", raised(within, book, [2] * many, hold, many - 1, start, (1, DIGITS_4000)))


def show_extremes(book, counts):
    many = len(book)
    for prices in ([1] * many, [(-1) ** k * (k + 1) for k in range(many)], [(k - 2, k + 3) for k in range(many)]):
        for side in SIDES:
            rho, heights, uses = rate(book, prices, side=side)
            show("rate", rho, heights, uses, is_bound(book, prices, rho, heights, side=side))
            show("uses", use_rate(book, prices, uses), needs(book, uses), raised(cycle, book, uses))
            show("bound", bound_value(book, counts, prices, rho, heights, 10 ** 40, side=side))
            show("extreme", [raised(extreme, book, counts, prices, n, side=side) for n in (0, 2, 5, 13)])


def show_compared(one, other):
    many = len(one)
    prices = [(-1) ** k * (k + 1) for k in range(many)]
    show("same", raised(same_means, one, other), raised(same_chances, one, other))
    for x, y in (([1] * many, [1] * many), ([9] * many, [9 + 3 * (k == 0) for k in range(many)])):
        told = (one, x, other, y, prices)
        show("never", raised(never_above, *told), raised(is_never, *told, 30), raised(is_never, *told, 5000))
        show("difference", [raised(difference, *told, n) for n in (0, 1, 30, 10 ** 40)])
        show("numerator", [raised(numerator, *told, n) for n in (0, 30, 5000)])


def show_texts(book):
    text = show_book(book)
    lines = text.split("\n")
    show("text", text, read_book(text) == book, show_standing(book, [5] * len(book)))
    for place in range(len(lines)):
        for changed in (lines[:place], lines[:place] + lines[place + 1:], lines[:place] + [lines[place] + " 0"]):
            show("text", raised(lambda: show_book(read_book("\n".join(changed)))))
    for words in ("pages", "pages 1", "pages" + " 1" * len(book), "pages" + " 01" * len(book), 7):
        show("pages", raised(read_standing, book, words), raised(read_hold, book, words))


def show_desk(book):
    desk = Desk(book, [2] * len(book))
    for kind in range(len(book)):
        for deed in (lambda: desk.come(kind), lambda: desk.run([(kind, 0), (0, 1)]), lambda: desk.set_prices([kind]),
                     lambda: desk.set_rule(kind, book[kind][:1]), lambda: desk.undo(2), lambda: desk.redo(),
                     lambda: desk.trial(lambda one: one.undo())):
            show("deed", raised(deed), desk.standing(), desk.marked(), desk.log(), desk.since(), desk.surplus())
            show("desk", desk.worth(), raised(desk.room, 1), raised(desk.ahead, 3), desk.prices, kind in desk)


def show_wrong_values():
    book = books()[0]
    for wrong in no_fractions():
        show("wrong", raised(mean, book, [1, wrong], 0), raised(mean, book, [1, 0], wrong), raised(ends, book, wrong))
        show("wrong", raised(squares, book, wrong, 0), raised(spread, book, [1, 0], [1, wrong], 0))
        show("wrong", raised(value, book, wrong, [1, 1]), raised(value, book, [1, 1], [wrong, 1]))
        show("wrong", raised(part, book, wrong), raised(factor, 0, wrong, 1), raised(reached, book, wrong))
        show("wrong", is_hold(book, wrong), raised(begin, book, wrong), raised(whole, book, [1, wrong], 0))
        show("wrong", raised(rate, book, [1, wrong]), raised(extreme, book, [1, 0], [1, 1], wrong))
        show("wrong", use_rate(book, [1, 1], wrong), raised(needs, book, wrong), raised(fitted_hold, book, wrong))
        show("wrong", raised(difference, book, [1, 0], book, [1, 0], [1, 1], wrong), raised(read_book, wrong))
        show("wrong", is_limit(book, wrong), raised(spread_limit, book, wrong), raised(far_mean, book, [1, 0], wrong))


if __name__ == "__main__":
    show_amounts()
    show_wrong_books()
    for each in books():
        show_kinds(each)
        show_comings(each)
    show_factors()
    show_wrong_values()
    for each in all_books():
        show_limits(each)
        show_holds(each)
        show_texts(each)
        show_desk(each)
        for second in all_books():
            if second.weights() == each.weights():
                show_compared(each, second)
        for some in standings(len(each)):
            show_means(each, some)
            show_far(each, some)
            show_histories(each, some)
            show_extremes(each, some)
        show_far(each, [DIGITS_4000] * len(each))
