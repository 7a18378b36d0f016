"""Limits: where the shares of a standing settle, and which kinds decide it."""

from pageshares.amounts import fraction, multiplied, subtracted
from pageshares.checks import checked_standing, is_kind
from pageshares.coming import gaps
from pageshares.elimination import solved
from pageshares.errors import InvalidBound, NoLimit
from pageshares.means import mean
from pageshares.vectors import combined, is_vector


def shares(book, counts, n):
    """Return MEAN(n) divided by the number of gaps after n comings."""
    numbers = mean(book, counts, n)
    t = gaps(book, counts) + n
    return [multiplied(number, (1, t)) for number in numbers]


def ends(book, counts):
    """Return the limits of the shares of the standing."""
    standing = checked_standing(book, counts)
    t = gaps(book, standing)
    parts = [(weight * count, t) for weight, count in zip(book.weights(), standing)]
    return combined(parts, _page_ends(book))


def rest(book, counts, n):
    """Return MEAN(n) minus the number of gaps then times the ends of the standing."""
    numbers = mean(book, counts, n)
    t = gaps(book, counts) + n
    return [subtracted(number, multiplied(t, end)) for number, end in zip(numbers, ends(book, counts))]


def has_limit(book):
    """Whether all standings of the book have the same ends."""
    return len(finals(book)) == 1


def limit(book):
    """Return the ends that all standings of the book have, or raise NoLimit."""
    found = _page_ends(book)
    # If some kinds end differently, one of them ends unlike kind 0, so 0 begins the least pair.
    unlike = [kind for kind in range(len(book)) if found[kind] != found[0]]
    if unlike:
        raise NoLimit((0, unlike[0]))
    return found[0]


def is_limit(book, value):
    """Whether the book has a limit and the value is this vector."""
    if not is_vector(book, value) or not has_limit(book):
        return False
    return [fraction(entry) for entry in value] == limit(book)


def groups(book):
    """Return the lists of the kinds that end alike."""
    found = _page_ends(book)
    kinds = range(len(book))
    firsts = [kind for kind in kinds if found.index(found[kind]) == kind]
    return [[kind for kind in kinds if found[kind] == found[first]] for first in firsts]


def reached(book, kind):
    """Return the kinds that pages of this kind can lead to."""
    if not is_kind(book, kind):
        raise InvalidBound("kind")
    kinds = range(len(book))
    following = [_following(book, other) for other in kinds]
    found = [kind]
    # No chain of kinds that are all different has more links than there are kinds.
    for _ in kinds:
        found = [new for new in kinds if new in found or any([new in following[old] for old in found])]
    return found


def finals(book):
    """Return the sets of kinds from each of whose kinds exactly the kinds of the set are reached."""
    reaches = [reached(book, kind) for kind in range(len(book))]
    found = []
    for kind, kinds in enumerate(reaches):
        if kinds[0] == kind and all([reaches[other] == kinds for other in kinds]):
            found.append(kinds)
    return found


def _following(book, kind):
    outcomes = [outcome for _, outcome in book[kind]]
    return [other for other in range(len(book)) if any([outcome[other] > 0 for outcome in outcomes])]


def _page_ends(book):
    """Return the ends of one page of each kind."""
    found = {}
    for kinds in finals(book):
        vector = _final_ends(book, kinds)
        for kind in kinds:
            found[kind] = vector
    passing = _passing_ends(book, found)
    for kind, vector in passing:
        found[kind] = vector
    return [found[kind] for kind in range(len(book))]


def _final_ends(book, kinds):
    """Return the one vector v of weight 1 with A v = v that has other entries than 0 only at the final set."""
    matrix = book.matrix()
    weights = book.weights()
    # Each row of A v = v follows from the others here, so the weight takes the place of the first one.
    rows = [[weights[i] for i in kinds]]
    for j in kinds[1:]:
        rows.append([subtracted(matrix[j][i], 1) if i == j else matrix[j][i] for i in kinds])
    rights = [[1]] + [[0] for _ in kinds[1:]]
    vector = [(0, 1) for _ in weights]
    for kind, entries in zip(kinds, solved(rows, rights)):
        vector[kind] = entries[0]
    return vector


def _passing_ends(book, known):
    """Return a list of the other kinds and their ends, from the known ends of the kinds of the final sets.

    A page ends as its mean outcome does, which weighs 1 more: the ends of the outcome's pages are the unknowns.
    """
    weights = book.weights()
    passing = [kind for kind in range(len(book)) if kind not in known]
    rows = []
    rights = []
    for kind in passing:
        parts = [multiplied(weight, number) for weight, number in zip(weights, book.mean_outcome(kind))]
        own = subtracted(weights[kind] + 1, parts[kind])
        rows.append([own if other == kind else multiplied(-1, parts[other]) for other in passing])
        rights.append(combined([parts[other] for other in known], [known[other] for other in known]))
    return list(zip(passing, solved(rows, rights)))
