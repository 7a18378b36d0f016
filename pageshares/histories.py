"""Whole chances: every standing that is possible after some comings, with its chance."""

from pageshares.amounts import fraction, is_fraction
from pageshares.changes import all_changes, chance_scale, whole_chances
from pageshares.checks import check_comings, checked_short_standing, checked_standing, is_integer_within
from pageshares.coming import gaps
from pageshares.errors import InvalidBound, InvalidFraction, InvalidStanding
from pageshares.layers import GREATEST_COUNT, check_size, packed, unpacked
from pageshares.vectors import check_prices, paired, quotient, whole_vector

MOST_COMINGS = 60


def whole(book, counts, n):
    """Return the tuples (standing, chance) of all standings with a chance above 0 after n comings."""
    standing = checked_short_standing(book, counts)
    check_comings(n, MOST_COMINGS)
    layer = _layers(book, standing, n)[-1]
    below = _all_histories(book, standing, n)
    return [(unpacked(code, len(book)), quotient(layer[code], below)) for code in sorted(layer)]


def likeliest(book, counts, n):
    """Return the tuple of the least standing with the greatest chance after n comings."""
    standing = checked_short_standing(book, counts)
    check_comings(n, MOST_COMINGS)
    layer = _layers(book, standing, n)[-1]
    greatest = max(layer.values())
    code = min([code for code, number in layer.items() if number == greatest])
    return (unpacked(code, len(book)), quotient(greatest, _all_histories(book, standing, n)))


def chance_of(book, counts, n, goal):
    """Return the chance that the standing after n comings is the goal."""
    standing = checked_short_standing(book, counts)
    check_comings(n, MOST_COMINGS)
    return quotient(_histories_to(book, standing, n, goal), _all_histories(book, standing, n))


def chance_at_least(book, counts, n, prices, bound):
    """Return the chance that the value after n comings is at least the bound."""
    standing = checked_short_standing(book, counts)
    check_comings(n, MOST_COMINGS)
    check_prices(book, prices)
    if not is_fraction(bound):
        raise InvalidFraction("bound")
    layer = _layers(book, standing, n)[-1]
    numbers, prices_below = whole_vector(prices)
    above, below = fraction(bound)
    # The values are integers over the denominator of the prices, so the bound may be rounded up to such a one.
    least = -(-above * prices_below // below)
    reaching = [layer[code] for code in layer if paired(numbers, unpacked(code, len(book))) >= least]
    return quotient(sum(reaching), _all_histories(book, standing, n))


def between(book, counts, m, n, goal):
    """Return the standings after m comings with their chances, given that the one after n comings is the goal."""
    standing = checked_short_standing(book, counts)
    if not is_integer_within(m, 0, MOST_COMINGS):
        raise InvalidBound("m")
    if not is_integer_within(n, m, MOST_COMINGS):
        raise InvalidBound("n")
    aim = _checked_goal(book, goal)
    layers = _layers(book, standing, n)
    moves = _moves(book)
    ahead = _goal_layer(layers[n], aim)
    for layer in layers[m:n][::-1]:
        ahead = _layer_before(moves, layer, ahead)
    parts = [(code, layers[m][code] * ahead[code]) for code in sorted(ahead)]
    total = sum([part for _, part in parts])
    return [(unpacked(code, len(book)), quotient(part, total)) for code, part in parts]


def histories(book, counts, n, goal):
    """Return how many histories of n comings of a sure book end at the goal."""
    if not book.is_sure():
        raise InvalidBound("book")
    standing = checked_short_standing(book, counts)
    check_comings(n, MOST_COMINGS)
    return _histories_to(book, standing, n, goal)


def _checked_goal(book, goal):
    try:
        return checked_standing(book, goal)
    except InvalidStanding:
        raise InvalidBound("goal") from None


def _histories_to(book, standing, n, goal):
    aim = _checked_goal(book, goal)
    layer = _layers(book, standing, n)[-1]
    return sum([layer[code] for code in _goal_layer(layer, aim)])


def _goal_layer(layer, aim):
    """Return the layer of the goal alone, or an empty one if the goal is not in the layer."""
    # A count that is too great for its bits would be taken for another standing.
    if max(aim) > GREATEST_COUNT or packed(aim) not in layer:
        return {}
    return {packed(aim): 1}


def _all_histories(book, standing, n):
    """Return the common denominator of the chances after n comings.

    In a sure book these are all histories; elsewhere each coming has as many as the gaps times the scale.
    """
    scale = chance_scale(book)
    start = gaps(book, standing)
    found = 1
    for t in range(start, start + n):
        found = found * scale * t
    return found


def _moves(book):
    """Return for each kind a list of tuples: how many histories one page adds by an outcome, and its change."""
    chances = whole_chances(book, chance_scale(book))
    parts = list(zip(book.weights(), chances, all_changes(book)))
    return [[(weight * amount, packed(change)) for amount, change in zip(amounts, changes)]
            for weight, amounts, changes in parts]


def _layers(book, standing, n):
    """Return the layers after 0, 1 and so on up to n comings: dicts that tell how many histories lead to a code."""
    moves = _moves(book)
    found = [{packed(standing): 1}]
    for _ in range(n):
        found.append(_layer_after(moves, found[-1]))
    return found


def _layer_after(moves, layer):
    after = {}
    for code, number in layer.items():
        for count, entries in zip(unpacked(code, len(moves)), moves):
            met = number * count
            if count > 0:
                for amount, change in entries:
                    after[code + change] = after.get(code + change, 0) + met * amount
        check_size(after)
    return after


def _layer_before(moves, layer, ahead):
    """Return how many histories lead to the goal, for the codes of the layer from which some do."""
    found = {}
    for code in layer:
        total = 0
        for count, entries in zip(unpacked(code, len(moves)), moves):
            if count > 0:
                ways = [amount * ahead.get(code + change, 0) for amount, change in entries]
                total = total + count * sum(ways)
        if total > 0:
            found[code] = total
    return found
