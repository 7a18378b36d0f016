"""Books: the kinds of pages, and what replaces a page of each kind."""

from math import lcm

from pageshares.amounts import added, fraction, is_fraction, is_less, multiplied, subtracted
from pageshares.checks import is_integer, is_integer_within, is_kind, is_list_of, is_pair
from pageshares.errors import InvalidBook, InvalidBound

MOST_KINDS = 6
MOST_WEIGHT = 12
MOST_ENTRIES = 4
MOST_PAGES = 20
MOST_DENOMINATOR = 100


class Book:
    """The weights of the kinds and a lottery for each kind; it never changes."""

    def __init__(self, weights, rules):
        _check_weights(weights)
        if not is_list_of(rules, len(weights)):
            raise InvalidBook("rules", -1)
        for kind, lottery in enumerate(rules):
            _check_lottery(weights, kind, lottery)
        # Tuples throughout, so that no caller's list is kept and none that is kept can be given away.
        self._weights = tuple(weights)
        self._lotteries = tuple([_kept_lottery(lottery) for lottery in rules])

    def __len__(self):
        return len(self._weights)

    def __iter__(self):
        raise TypeError("a book cannot be iterated over")

    def __getitem__(self, at):
        if not is_kind(self, at):
            raise InvalidBound("kind")
        return [(chance, list(outcome)) for chance, outcome in self._lotteries[at]]

    def __eq__(self, other):
        return isinstance(other, Book) and self._weights == other._weights and self._lotteries == other._lotteries

    def __ne__(self, other):
        return not self == other

    def weights(self):
        """Return the list of the weights."""
        return list(self._weights)

    def is_sure(self):
        """Whether each lottery has one entry."""
        return all([len(lottery) == 1 for lottery in self._lotteries])

    def mean_outcome(self, kind):
        """Return the mean of the outcomes of the kind, as a vector."""
        lottery = self[kind]
        return [_mean_number(lottery, other) for other in range(len(self))]

    def matrix(self):
        """Return the matrix: column i says how a page of kind i changes the mean numbers."""
        columns = [self._column(kind) for kind in range(len(self))]
        return [[column[place] for column in columns] for place in range(len(self))]

    def with_lottery(self, kind, lottery):
        """Return the book with another lottery of the kind."""
        if not is_kind(self, kind):
            raise InvalidBound("kind")
        rules = [self[other] for other in range(len(self))]
        rules[kind] = lottery
        return Book(self.weights(), rules)

    def renamed(self, order):
        """Return the book in which kind k is kind order[k] of this one."""
        if not _is_order(order, len(self)):
            raise InvalidBound("order")
        weights = [self._weights[old] for old in order]
        return Book(weights, [self._renamed_lottery(old, order) for old in order])

    def _column(self, kind):
        change = self.mean_outcome(kind)
        change[kind] = subtracted(change[kind], 1)
        return [multiplied(self._weights[kind], number) for number in change]

    def _renamed_lottery(self, kind, order):
        return [(chance, [outcome[old] for old in order]) for chance, outcome in self._lotteries[kind]]


def _check_weights(weights):
    if not isinstance(weights, list) or not 1 <= len(weights) <= MOST_KINDS:
        raise InvalidBook("weights", -1)
    for kind, weight in enumerate(weights):
        if not is_integer_within(weight, 1, MOST_WEIGHT):
            raise InvalidBook("weights", kind)


def _check_lottery(weights, kind, lottery):
    if not _has_form(lottery):
        raise InvalidBook("form", kind)
    if not _are_chances([entry[0] for entry in lottery]):
        raise InvalidBook("chances", kind)
    outcomes = [entry[1] for entry in lottery]
    if not all([_is_outcome(outcome, len(weights)) for outcome in outcomes]):
        raise InvalidBook("outcomes", kind)
    if not _are_different(outcomes):
        raise InvalidBook("likeness", kind)
    if not all([_weight_of(weights, outcome) == weights[kind] + 1 for outcome in outcomes]):
        raise InvalidBook("balance", kind)


def _has_form(lottery):
    if not isinstance(lottery, list) or not 1 <= len(lottery) <= MOST_ENTRIES:
        return False
    return all([is_pair(entry) for entry in lottery])


def _are_chances(values):
    if not all([is_fraction(value) and is_less(0, value) for value in values]):
        return False
    # A fraction need not come in lowest terms, so its own denominator may be far above the common one.
    lowest = [fraction(value) for value in values]
    common = 1
    for _, below in lowest:
        common = lcm(common, below)
    parts = [above * (common // below) for above, below in lowest]
    return common <= MOST_DENOMINATOR and sum(parts) == common


def _is_outcome(value, many):
    return is_list_of(value, many) and all([is_integer_within(pages, 0, MOST_PAGES) for pages in value])


def _are_different(outcomes):
    return all([outcome not in outcomes[:place] for place, outcome in enumerate(outcomes)])


def _weight_of(weights, outcome):
    return sum([weight * pages for weight, pages in zip(weights, outcome)])


def _is_order(value, many):
    if not is_list_of(value, many) or not all([is_integer(kind) for kind in value]):
        return False
    return sorted(value) == list(range(many))


def _kept_lottery(lottery):
    # The outcomes stand first, so that they alone decide the sequence: no two are the same.
    entries = sorted([(tuple(outcome), fraction(chance)) for chance, outcome in lottery])
    return tuple([(chance, outcome) for outcome, chance in entries])


def _mean_number(lottery, kind):
    mean = (0, 1)
    for chance, outcome in lottery:
        mean = added(mean, multiplied(chance, outcome[kind]))
    return mean
