"""What several tests share: books to try, wrong values, and a way to see which error a call raises."""

from itertools import product

from pageshares.books import Book
from pageshares.errors import ShareError

ATTRIBUTES = {
    "InvalidFraction": ("name",),
    "InvalidBound": ("name",),
    "InvalidBook": ("part", "at"),
    "InvalidStanding": ("at",),
    "InvalidRow": ("at",),
    "InvalidHold": ("part",),
    "InvalidText": ("line", "word"),
    "InvalidCall": ("call",),
    "NoLimit": ("pair",),
    "NotPlain": ("found",),
    "LimitExceeded": ("limit",),
}

DIGITS_40 = 10 ** 39 + 7
DIGITS_4000 = 10 ** 3999 + 7


def raised(call, *args, **named):
    """The class name and the attributes of the error that the call raises, or what it returned."""
    try:
        result = call(*args, **named)
    except ShareError as error:
        name = error.__class__.__name__
        return (name,) + tuple(getattr(error, attribute) for attribute in ATTRIBUTES[name])
    return ("returned", result)


def check_sequence(test, call, good, wrongs):
    """Of several wrong arguments the first one of the sequence is told.

    `good` has right arguments by name; `wrongs` are tuples of a name, a wrong value and the error, in the sequence in
    which the errors have to come. Each one is tried with all selections of the later ones.
    """
    for place, (name, worth, error) in enumerate(wrongs):
        later = wrongs[place + 1:]
        for chosen in product((False, True), repeat=len(later)):
            named = dict(good)
            # The earlier ones of the same name are tried last, so that they stay.
            for (other, value, _), is_chosen in reversed(list(zip(later, chosen))):
                if is_chosen:
                    named[other] = value
            named[name] = worth
            with test.subTest(name, chosen=chosen):
                test.assertEqual(raised(call, **named), error)


def twin():
    """The sure book of the document's examples."""
    return Book([2, 3], [[(1, [0, 1])], [(1, [2, 0])]])


def mixed():
    """The document's example with a lottery of two entries."""
    return Book([1, 2], [[((1, 3), [2, 0]), ((2, 3), [0, 1])], [(1, [1, 1])]])


def lone():
    """The only book of one kind."""
    return Book([1], [[(1, [2])]])


def six():
    """A book of 6 kinds, with the weights 1 and 12 and a lottery of 4 entries."""
    weights = [1, 2, 3, 4, 5, 12]
    rules = [[(1, grown(6, kind))] for kind in range(6)]
    rules[5] = [
        ((1, 10), [13, 0, 0, 0, 0, 0]),
        ((2, 10), [1, 0, 0, 3, 0, 0]),
        ((3, 10), [0, 4, 0, 0, 1, 0]),
        ((4, 10), [1, 0, 0, 0, 0, 1]),
    ]
    return Book(weights, rules)


def grown(many, kind):
    """The outcome that keeps the page and adds one of kind 0, which has the weight 1."""
    outcome = [0] * many
    outcome[kind] = 1
    outcome[0] += 1
    return outcome


def books():
    """Books of 1, 2, 3 and 6 kinds, sure and not sure."""
    half = [((1, 2), [0, 2, 0]), ((1, 2), [0, 0, 2])]
    return [
        twin(),
        mixed(),
        lone(),
        six(),
        Book([1, 1, 1], [half, [(1, [0, 2, 0])], [(1, [0, 0, 2])]]),
        Book([1, 2, 3], [
            [((1, 7), [2, 0, 0]), ((6, 7), [0, 1, 0])],
            [((1, 4), [3, 0, 0]), ((1, 4), [1, 1, 0]), ((1, 2), [0, 0, 1])],
            [((99, 100), [0, 2, 0]), ((1, 100), [1, 0, 1])],
        ]),
    ]


def nested(depth):
    """A list nested so deep."""
    value = []
    for _ in range(depth - 1):
        value = [value]
    return value


def no_integers():
    """Values of many kinds that are not integers."""
    return [
        None, True, False, 0.0, 1.0, float("nan"), float("inf"), 1j, "", "0", "1", b"", b"1", (), (1,), (0, 1),
        (1, 2, 3), [], [0], [1, 2], {}, {0: 1}, set(), {1}, frozenset([1]), range(2), slice(0, 1), Ellipsis,
        NotImplemented, int, len, object(), bytearray(b"1"), nested(8), twin(), ShareError("x"),
    ]


def no_fractions():
    """Values of many kinds that are not fractions."""
    kept = [value for value in no_integers() if value != (0, 1)]
    return kept + [
        (1, 0), (0, 0), (1, -1), (-1, -2), (1, -DIGITS_4000), (1, True), (True, 2), (False, 1), (1, 1.0), (1.0, 2),
        (1, "2"), ("1", 2), (1, None), ((1, 2), 3), (1, (2, 1)), [1, 2], "1/2", (1, 2, 1), (1,), ((1, 2),),
    ]


def no_lists():
    """Values of many kinds that are not lists."""
    return [value for value in no_integers() if not isinstance(value, list)] + [0, 2, DIGITS_4000, (1, 0), (2, 3)]
