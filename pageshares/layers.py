"""The standings that can be there after some comings: a layer is a dict with one of their codes for each."""

from pageshares.errors import LimitExceeded

# The code of a standing is one integer, which is added to and looked up faster than a list. The count of kind 0
# stands in its highest bits, so that codes have the sequence of their standings. With 21 bits for each count there
# is room for those of a short standing after 60 comings, each of which adds at most 20 pages.
BITS = 21
GREATEST_COUNT = 2 ** 21 - 1
MOST_STANDINGS = 2000


def packed(numbers):
    """Return the code of a standing, or what a change adds to the code of a standing."""
    code = 0
    for number in numbers:
        code = (code << BITS) + number
    return code


def unpacked(code, many):
    """Return the standing of so many kinds that has the code."""
    return [(code >> place) & GREATEST_COUNT for place in range(BITS * (many - 1), -1, -BITS)]


def check_size(layer):
    """Raise LimitExceeded if the layer has too many standings."""
    if len(layer) > MOST_STANDINGS:
        raise LimitExceeded(MOST_STANDINGS)
