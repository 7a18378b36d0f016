"""A desk: a book, a standing, prices and a mark that change by deeds, which can be undone."""

from pageshares.amounts import fraction, subtracted
from pageshares.checks import SHORT_LIMIT, checked_short_standing, is_integer, is_integer_within, is_kind
from pageshares.coming import come, gaps, row
from pageshares.errors import InvalidBound, InvalidCall, LimitExceeded
from pageshares.extremes import extreme
from pageshares.means import MOST_COMINGS, mean
from pageshares.vectors import check_prices, inner


class State:
    """All that a desk is between two deeds: its book, its counts, its prices, its mark and the comings since then.

    It never changes, so that one state can be kept by several deeds and trials.
    """

    def __init__(self, rules, counts, costs, mark, arrived):
        self.rules = rules
        self.counts = tuple(counts)
        self.costs = tuple(costs)
        self.mark = tuple(mark)
        self.arrived = arrived


class Desk:
    """The state at the beginning and the deeds, each with its log entry and the state after it.

    Of the deeds as many as `_stands` says stand; those after them can be done again.
    """

    def __init__(self, book, counts, *, prices=None):
        standing = checked_short_standing(book, counts)
        given = [1 for _ in standing] if prices is None else prices
        check_prices(book, given)
        self._first = State(book, standing, _lowest(given), standing, 0)
        self._deeds = []
        self._stands = 0

    def __len__(self):
        return len(self._state().counts)

    def __iter__(self):
        raise TypeError("a desk cannot be iterated over")

    def __contains__(self, x):
        state = self._state()
        return is_kind(state.rules, x) and state.counts[x] > 0

    def __getitem__(self, at):
        state = self._state()
        if not is_kind(state.rules, at):
            raise InvalidBound("kind")
        return state.counts[at]

    def __setitem__(self, at, worth):
        state = self._state()
        if not is_kind(state.rules, at):
            raise InvalidBound("kind")
        if not is_integer_within(worth, 0, SHORT_LIMIT):
            raise InvalidBound("many")
        counts = [worth if kind == at else count for kind, count in enumerate(state.counts)]
        if sum(counts) == 0:
            raise InvalidCall("set")
        self._do(("set", at, worth), State(state.rules, counts, state.costs, counts, 0))

    def __iadd__(self, other):
        self.run(other)
        return self

    @property
    def prices(self):
        """The list of the prices."""
        return list(self._state().costs)

    @prices.setter
    def prices(self, value):
        self.set_prices(value)

    def come(self, kind, number=0):
        """Let one coming arrive."""
        state = self._state()
        counts = come(state.rules, list(state.counts), kind, number)
        _check_short(counts)
        self._do(("come", kind, number), _after(state, counts, 1))

    def run(self, picks):
        """Let all comings of the row arrive as one deed."""
        state = self._state()
        counts = list(state.counts)
        found = list(row(state.rules, counts, picks))
        for standing in found:
            _check_short(standing)
            counts = standing
        self._do(("run", tuple(picks)), _after(state, counts, len(found)))

    def set_rule(self, kind, lottery):
        """Put another lottery in place of the one of the kind."""
        state = self._state()
        rules = state.rules.with_lottery(kind, lottery)
        self._do(("rule", kind, rules), State(rules, state.counts, state.costs, state.counts, 0))

    def set_prices(self, prices):
        """Set the prices."""
        state = self._state()
        check_prices(state.rules, prices)
        costs = _lowest(prices)
        self._do(("prices", costs), State(state.rules, state.counts, costs, state.mark, state.arrived))

    def set_mark(self):
        """Set the mark to the present standing."""
        state = self._state()
        self._do(("mark",), State(state.rules, state.counts, state.costs, state.counts, 0))

    def undo(self, many=1):
        """Take back the last deeds that stand."""
        _check_many(many)
        if many > self._stands:
            raise InvalidCall("undo")
        self._stands = self._stands - many

    def redo(self, many=1):
        """Do the last undone deeds again."""
        _check_many(many)
        if many > len(self._deeds) - self._stands:
            raise InvalidCall("redo")
        self._stands = self._stands + many

    def log(self):
        """Return the entries of the deeds that stand, the oldest first."""
        return [_told(entry) for entry, _ in self._deeds[:self._stands]]

    def book(self):
        """Return the present book."""
        return self._state().rules

    def standing(self):
        """Return the present standing."""
        return list(self._state().counts)

    def marked(self):
        """Return the mark."""
        return list(self._state().mark)

    def gaps(self):
        """Return the number of gaps of the present standing."""
        return gaps(self.book(), self.standing())

    def worth(self):
        """Return the value of the present standing at the present prices."""
        return inner(self.prices, self.standing())

    def ahead(self, n):
        """Return the means after n further comings."""
        return mean(self.book(), self.standing(), n)

    def room(self, n):
        """Return the least and the greatest value that the standing after n further comings can have."""
        least, _ = extreme(self.book(), self.standing(), self.prices, n, side="fewest")
        greatest, _ = extreme(self.book(), self.standing(), self.prices, n)
        return (least, greatest)

    def since(self):
        """Return how many comings have arrived since the mark was set."""
        return self._state().arrived

    def surplus(self):
        """Return the counts less their means after as many comings from the mark."""
        state = self._state()
        if state.arrived > MOST_COMINGS:
            raise LimitExceeded(MOST_COMINGS)
        expected = mean(state.rules, list(state.mark), state.arrived)
        return [subtracted(count, number) for count, number in zip(state.counts, expected)]

    def trial(self, work):
        """Return the result of the work on this desk, and leave the desk as it was before."""
        deeds = self._deeds
        stands = self._stands
        self._deeds = list(deeds)
        try:
            return work(self)
        finally:
            self._deeds = deeds
            self._stands = stands

    def _state(self):
        if self._stands == 0:
            return self._first
        return self._deeds[self._stands - 1][1]

    def _do(self, entry, state):
        # What was undone before can no more be done again.
        del self._deeds[self._stands:]
        self._deeds.append((entry, state))
        self._stands = len(self._deeds)


def _lowest(prices):
    return [fraction(price) for price in prices]


def _check_short(counts):
    if max(counts) > SHORT_LIMIT:
        raise LimitExceeded(SHORT_LIMIT)


def _check_many(many):
    if not is_integer(many) or many < 1:
        raise InvalidBound("many")


def _after(state, counts, many):
    """Return the state after so many comings."""
    return State(state.rules, counts, state.costs, state.mark, state.arrived + many)


def _told(entry):
    """Return the entry of the log with lists of its own."""
    if entry[0] == "run" or entry[0] == "prices":
        return (entry[0], list(entry[1]))
    if entry[0] == "rule":
        kind = entry[1]
        return ("rule", kind, entry[2][kind])
    return entry
