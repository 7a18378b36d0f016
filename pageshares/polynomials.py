"""Polynomials in one unknown as lists of integers: the number at place i belongs to the power i."""


def with_factor(numbers, amount):
    """Return the polynomial multiplied by the sum of the unknown and the amount."""
    return [amount * number + before for number, before in zip(numbers + [0], [0] + numbers)]


def moved(numbers, amount):
    """Return the polynomial in which the sum of the unknown and the amount stands for the unknown."""
    found = list(numbers)
    last = len(found) - 1
    for low in range(last):
        for place in range(last - 1, low - 1, -1):
            found[place] = found[place] + amount * found[place + 1]
    return found


def differences(numbers):
    """Return the value at 0, its difference from the value at 1, the difference of such differences, and so on."""
    values = [_value_at(numbers, place) for place in range(len(numbers))]
    found = []
    while values:
        found.append(values[0])
        values = [later - earlier for earlier, later in zip(values, values[1:])]
    return found


def next_differences(steps):
    """Return the differences at the next integer."""
    return [step + change for step, change in zip(steps, steps[1:] + [0])]


def _value_at(numbers, place):
    total = 0
    for number in numbers[::-1]:
        total = total * place + number
    return total
