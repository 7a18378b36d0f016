"""Texts of books, standings and holds: lines of words."""

from math import gcd

from pageshares.amounts import fraction
from pageshares.books import Book
from pageshares.checks import checked_standing
from pageshares.errors import InvalidText
from pageshares.holds import check_hold

MOST_DIGITS = 60


def show_book(book):
    """Return the text of the book."""
    lines = [_line("weights", [str(weight) for weight in book.weights()])]
    for kind in range(len(book)):
        for chance, outcome in book[kind]:
            lines.append(_line("rule", [str(kind), _fraction_word(chance)] + [str(pages) for pages in outcome]))
    return "\n".join(lines)


def read_book(text):
    """Return the book of a text."""
    lines = _lines(text)
    # Line 0 may have any number of weights, but at least one.
    many = max(1, len(lines[0]) - 1)
    _check_line(lines, 0, "weights", ["plain" for _ in range(many)])
    shapes = ["plain", "fraction"] + ["plain" for _ in range(many)]
    rules = [[] for _ in range(many)]
    for place in range(1, len(lines)):
        _check_line(lines, place, "rule", shapes, many)
        _, kind, chance, *numbers = lines[place]
        rules[int(kind)].append((_read_fraction(chance), _integers(numbers)))
    return Book(_integers(lines[0][1:]), rules)


def show_standing(book, counts):
    """Return the text of the standing."""
    return _line("pages", [str(count) for count in checked_standing(book, counts)])


def read_standing(book, text):
    """Return the standing of a text."""
    lines = _lines(text)
    _check_line(lines, 0, "pages", ["plain" for _ in range(len(book))])
    _check_end(lines, 1)
    return checked_standing(book, _integers(lines[0][1:]))


def show_hold(book, hold):
    """Return the text of the hold."""
    check_hold(book, hold)
    return "\n".join([
        _line("scale", [_fraction_word(entry) for entry in hold[0]]),
        _line("shift", [_fraction_word(entry) for entry in hold[1]]),
    ])


def read_hold(book, text):
    """Return the hold of a text."""
    lines = _lines(text)
    shapes = ["fraction" for _ in range(len(book))]
    _check_line(lines, 0, "scale", shapes)
    _check_line(lines, 1, "shift", shapes)
    _check_end(lines, 2)
    hold = ([_read_fraction(word) for word in lines[0][1:]], [_read_fraction(word) for word in lines[1][1:]])
    check_hold(book, hold)
    return hold


def _line(head, words):
    return " ".join([head] + words)


def _fraction_word(value):
    above, below = fraction(value)
    return str(above) if below == 1 else f"{above}/{below}"


def _integers(words):
    return [int(word) for word in words]


def _read_fraction(word):
    above, _, below = word.partition("/")
    return (int(above), int(below) if below else 1)


def _lines(text):
    """Return the words of each line of the text."""
    if not isinstance(text, str):
        raise InvalidText(-1, -1)
    return [line.split(" ") for line in text.split("\n")]


def _check_line(lines, place, head, shapes, most=None):
    """Raise InvalidText at the first word of the line that is not the head or, after it, a word of its shape.

    If `most` is given, the number after the head has to be less than it.
    """
    if place == len(lines):
        raise InvalidText(place, 0)
    words = lines[place]
    if words[0] != head:
        raise InvalidText(place, 0)
    for number, word in enumerate(words[1:]):
        if number == len(shapes) or not _has_shape(word, shapes[number]):
            raise InvalidText(place, number + 1)
        if number == 0 and most is not None and int(word) >= most:
            raise InvalidText(place, 1)
    if len(words) <= len(shapes):
        raise InvalidText(place, len(words))


def _check_end(lines, many):
    if len(lines) > many:
        raise InvalidText(many, 0)


def _has_shape(word, shape):
    return _is_plain(word) if shape == "plain" else _is_fraction(word)


def _is_plain(word):
    """Whether the word is one of an integer of at least 0."""
    # The length comes first: Python refuses to read an integer of very many digits.
    if len(word) > MOST_DIGITS or not word.isascii() or not word.isdigit():
        return False
    return word == "0" or word[0] != "0"


def _is_integer(word):
    if word[:1] == "-":
        return word != "-0" and _is_plain(word[1:])
    return _is_plain(word)


def _is_fraction(word):
    above, slash, below = word.partition("/")
    if slash == "":
        return _is_integer(word)
    if not _is_integer(above) or not _is_plain(below):
        return False
    return int(below) > 1 and gcd(int(above), int(below)) == 1
