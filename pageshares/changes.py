"""What the outcomes of a book change, and the chances of the outcomes as integers."""

from pageshares.vectors import common_denominator, wholes


def all_changes(book):
    """Return for each kind the changes of its outcomes, each one the outcome less one page of the kind."""
    return [[_change(outcome, kind) for _, outcome in book[kind]] for kind in range(len(book))]


def chance_scale(book):
    """Return a common denominator of all chances of the book."""
    return common_denominator([chance for kind in range(len(book)) for chance, _ in book[kind]])


def whole_chances(book, scale):
    """Return for each kind the chances of its outcomes, multiplied by the scale."""
    return [wholes([chance for chance, _ in book[kind]], scale) for kind in range(len(book))]


def _change(outcome, kind):
    return [pages - 1 if place == kind else pages for place, pages in enumerate(outcome)]
