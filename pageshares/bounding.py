"""The least bound: a number rho and heights of at least 0 such that rho is at least the gain of each column plus the
product of the heights and the column. The uses that come with it show that no lesser number has such heights.

It is found by the simplex method for the uses, in integers over one divisor. The columns are small integers, so the
divisor stays small; only the gains may be long, and they stand in one line of the table.
"""


def least_bound(gains, columns):
    """Return rho, the heights and the uses as integers, and the divisor of all of them.

    The uses are at least 0, their sum is 1, the sum of the columns, each multiplied by its use, is at least 0 in all
    entries, and the sum of the gains, each multiplied by its use, is rho. There have to be such uses.
    """
    table = Table(gains, columns)
    place = table.wrong_place()
    while place is not None:
        table.turn(place)
        place = table.wrong_place()
    return table.result()


class Table:
    """The equations of the uses, solved for some of the unknowns.

    The unknowns are the uses and, after them, the entries of the sum of the columns. Each line has the factors of all
    unknowns and the right side at the end. The unknown for which a line is solved has the divisor as its factor there
    and 0 in the other lines. The last line is solved for rho; its factors are never below 0, so that its numbers are
    a bound at each step.
    """

    def __init__(self, gains, columns):
        # At the beginning all heights are 0, and the column of the greatest gain alone is used.
        first = gains.index(max(gains))
        head = columns[first]
        entries = range(len(head))
        zeros = [0 for _ in entries]
        self.many = len(columns)
        self.divisor = 1
        self.solved_for = [self.many + entry for entry in entries] + [first]
        self.lines = []
        for entry in entries:
            own = [1 if other == entry else 0 for other in entries]
            self.lines.append([head[entry] - column[entry] for column in columns] + own + [head[entry]])
        self.lines.append([1 for _ in columns] + zeros + [1])
        self.lines.append([gains[first] - gain for gain in gains] + zeros + [gains[first]])

    def wrong_place(self):
        """Return the line of the first unknown that is below 0, or None."""
        # The first one, here and where `_entering` has a choice: so the method never goes round in a circle.
        wrong = [(unknown, place) for place, unknown in enumerate(self.solved_for) if self.lines[place][-1] < 0]
        if not wrong:
            return None
        return min(wrong)[1]

    def turn(self, place):
        """Solve the line for an unknown whose factor there is below 0, and clear this unknown from the others."""
        head = self.lines[place]
        unknown = self._entering(head)
        turned = [[-factor for factor in head] if other == place else _cleared(line, head, unknown, self.divisor)
                  for other, line in enumerate(self.lines)]
        self.lines = turned
        self.divisor = -head[unknown]
        self.solved_for[place] = unknown

    def result(self):
        """Return rho, the heights, the uses and the divisor."""
        uses = [0 for _ in range(self.many)]
        for place, unknown in enumerate(self.solved_for):
            if unknown < self.many:
                uses[unknown] = self.lines[place][-1]
        last = self.lines[-1]
        return (last[-1], last[self.many:-1], uses, self.divisor)

    def _entering(self, head):
        """Return the unknown after whose entering no factor of the last line is below 0."""
        last = self.lines[-1]
        best = -1
        for unknown, factor in enumerate(head[:-1]):
            if factor < 0 and (best < 0 or last[unknown] * -head[best] < last[best] * -factor):
                best = unknown
        return best


def _cleared(line, head, unknown, divisor):
    # The division leaves no remainder: all numbers are determinants of the equations at the beginning.
    own = line[unknown]
    factor = -head[unknown]
    return [(factor * entry + own * top) // divisor for entry, top in zip(line, head)]
