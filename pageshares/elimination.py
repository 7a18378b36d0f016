"""The elimination of unknowns, in integers."""

from pageshares.vectors import over, whole_vector


def rank(rows):
    """Return how many of the rows of integers are independent."""
    left = rows
    found = 0
    for column in range(len(rows[0])):
        places = [place for place, line in enumerate(left) if line[column] != 0]
        if places:
            head = left[places[0]]
            left = [_cleared(line, head, column) for place, line in enumerate(left) if place != places[0]]
            found = found + 1
    return found


def solved(rows, rights):
    """Return the one solution of linear equations: a vector for each unknown.

    Each row of fractions has an entry for each unknown, and its right side is a vector.
    """
    many = len(rows)
    left = []
    for line, right in zip(rows, rights):
        numbers, _ = whole_vector(line + right)
        left.append(numbers)
    for column in range(many):
        pivot = min([place for place in range(column, many) if left[place][column] != 0])
        left[column], left[pivot] = left[pivot], left[column]
        head = left[column]
        left = [line if place == column else _cleared(line, head, column) for place, line in enumerate(left)]
    return [over(line[many:], line[place]) for place, line in enumerate(left)]


def _cleared(line, head, column):
    return [head[column] * entry - line[column] * top for entry, top in zip(line, head)]
