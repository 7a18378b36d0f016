"""The same numbers, found another way: with Python's fractions, by following every possible standing."""

from fractions import Fraction


def exact(value):
    """The fraction of the program as one of Python's."""
    return Fraction(value) if isinstance(value, int) else Fraction(value[0], value[1])


def pair(value):
    """Python's fraction as one of the program's."""
    value = Fraction(value)
    return (value.numerator, value.denominator)


def exacts(vector):
    return [exact(value) for value in vector]


def pairs(vector):
    return [pair(value) for value in vector]


def exact_rows(matrix):
    return [exacts(line) for line in matrix]


def matrix_of(book):
    """The matrix of point [3.7], from the lotteries."""
    weights, many = book.weights(), len(book)
    rows = [[Fraction(0)] * many for _ in range(many)]
    for i in range(many):
        for chance, outcome in book[i]:
            for j in range(many):
                rows[j][i] += weights[i] * exact(chance) * (outcome[j] - (i == j))
    return rows


def dot(one, other):
    return sum((a * b for a, b in zip(one, other)), Fraction(0))


def apply(rows, vector):
    return [dot(line, vector) for line in rows]


def product(one, other):
    return [[dot(line, column) for column in zip(*other)] for line in one]


def turned(rows):
    return [list(column) for column in zip(*rows)]


def unit(many):
    return [[Fraction(int(i == j)) for i in range(many)] for j in range(many)]


def gaps_of(book, counts):
    return sum(weight * count for weight, count in zip(book.weights(), counts))


def standings_after(book, counts, n):
    """A dict of all standings that are possible after n comings, with their chances."""
    weights = book.weights()
    found = {tuple(counts): Fraction(1)}
    for _ in range(n):
        after = {}
        for standing, chance in found.items():
            t = gaps_of(book, standing)
            for kind, count in enumerate(standing):
                if count > 0:
                    for share, outcome in book[kind]:
                        new = list(standing)
                        new[kind] -= 1
                        new = tuple(a + b for a, b in zip(new, outcome))
                        met = chance * Fraction(weights[kind] * count, t) * exact(share)
                        after[new] = after.get(new, Fraction(0)) + met
        found = after
    return found


def mean_after(book, counts, n):
    """MEAN(n) as point [5.1] has it."""
    found = standings_after(book, counts, n)
    return [sum(chance * standing[k] for standing, chance in found.items()) for k in range(len(book))]


def squares_after(book, counts, n):
    """The squares as point [6.1] has them."""
    found = standings_after(book, counts, n)
    kinds = range(len(book))
    return [[sum(chance * x[i] * x[j] for x, chance in found.items()) for j in kinds] for i in kinds]


def spread_after(book, counts, prices, n):
    """The variance of the value."""
    found = [(dot(prices, standing), chance) for standing, chance in standings_after(book, counts, n).items()]
    middle = sum(chance * worth for worth, chance in found)
    return sum(chance * (worth - middle) ** 2 for worth, chance in found)


def jumps_of(book, kind):
    """The matrix D of the kind (point [6.2])."""
    many = len(book)
    rows = [[Fraction(0)] * many for _ in range(many)]
    for chance, outcome in book[kind]:
        change = [pages - (k == kind) for k, pages in enumerate(outcome)]
        for j in range(many):
            for k in range(many):
                rows[j][k] += exact(chance) * change[j] * change[k]
    return rows


def null_vectors(rows):
    """As many independent vectors as possible that the rows send to 0."""
    rows, many, fixed = [list(line) for line in rows], len(rows[0]), []
    for column in range(many):
        place = next((k for k in range(len(fixed), len(rows)) if rows[k][column] != 0), None)
        if place is None:
            continue
        at = len(fixed)
        rows[at], rows[place] = rows[place], rows[at]
        rows[at] = [entry / rows[at][column] for entry in rows[at]]
        for k in range(len(rows)):
            if k != at:
                rows[k] = [a - rows[k][column] * b for a, b in zip(rows[k], rows[at])]
        fixed.append(column)
    found = []
    for free in (column for column in range(many) if column not in fixed):
        vector = [Fraction(0)] * many
        vector[free] = Fraction(1)
        for at, column in enumerate(fixed):
            vector[column] = -rows[at][free]
        found.append(vector)
    return found


def shifted(rows, amount):
    """The rows with the amount subtracted from each entry of the diagonal."""
    return [[entry - amount * (i == j) for i, entry in enumerate(line)] for j, line in enumerate(rows)]


def moves_of(book):
    """Tuples of a kind, a number, a chance and a change, for each outcome of the book."""
    found = []
    for kind in range(len(book)):
        for number, (chance, outcome) in enumerate(book[kind]):
            found.append((kind, number, exact(chance), tuple(a - (k == kind) for k, a in enumerate(outcome))))
    return found


def possible_after(book, counts, n):
    """The list of the sets of the standings that are possible after 0, 1 and so on up to n comings."""
    moves = moves_of(book)
    found = [{tuple(counts)}]
    for _ in range(n):
        found.append({tuple(map(sum, zip(standing, change)))
                      for standing in found[-1] for kind, _, _, change in moves if standing[kind]})
    return found
