"""Section 2, and the general rules about integers and fractions."""

import unittest
from fractions import Fraction

from pageshares.amounts import added, fraction, is_fraction, is_less, multiplied, subtracted
from tests.common import DIGITS_40, DIGITS_4000, no_fractions, raised

FRACTIONS = [
    0, 1, -1, 3, 12, (0, 5), (3, 1), (1, 2), (2, 4), (-6, 4), (7, 100), (7, 101), (-1, 3), (10, 15), (6, 3),
    DIGITS_40, (-DIGITS_40, 9), (9, DIGITS_40), DIGITS_4000, -DIGITS_4000, (DIGITS_4000, DIGITS_4000 - 1),
    (-1, DIGITS_4000), (2 * DIGITS_40, 4 * DIGITS_40), (10 ** 4000 - 1, 10 ** 4000 - 1),
]


def exact(value):
    return Fraction(value) if isinstance(value, int) else Fraction(value[0], value[1])


def pair(value):
    return (value.numerator, value.denominator)


class TestIsFraction(unittest.TestCase):
    def test_fractions(self):
        """[0.3] [2.1] Integers, and tuples of two integers with the second at least 1."""
        for value in FRACTIONS:
            self.assertIs(is_fraction(value), True)

    def test_other_values(self):
        """[0.3] [0.9] [2.1] Nothing else is a fraction: no bool, no second entry below 1, no three entries."""
        for value in no_fractions():
            with self.subTest(repr(value)[:60]):
                self.assertIs(is_fraction(value), False)


class TestFraction(unittest.TestCase):
    def test_lowest_terms(self):
        """[0.3] [0.4] [2.1] The tuple is in lowest terms, with a second entry of at least 1."""
        for value in FRACTIONS:
            result = fraction(value)
            self.assertEqual(result, pair(exact(value)))
            self.assertEqual([type(result), type(result[0]), type(result[1])], [tuple, int, int])

    def test_known_values(self):
        """[0.3] 3 is returned as (3, 1) and 0 as (0, 1)."""
        self.assertEqual([fraction(3), fraction(0), fraction((0, 7))], [(3, 1), (0, 1), (0, 1)])
        self.assertEqual([fraction((-6, 4)), fraction((6, 4))], [(-3, 2), (3, 2)])
        self.assertEqual(fraction((5 * DIGITS_4000, 10 * DIGITS_4000)), (1, 2))

    def test_other_values(self):
        """[2.1] The error names the parameter."""
        for value in no_fractions():
            with self.subTest(repr(value)[:60]):
                self.assertEqual(raised(fraction, value), ("InvalidFraction", "value"))

    def test_by_name(self):
        """Parameters may be passed by name."""
        self.assertEqual(fraction(value=(2, 4)), (1, 2))
        self.assertIs(is_fraction(value=(2, 4)), True)


class TestArithmetic(unittest.TestCase):
    def test_against_python_fractions(self):
        """[0.3] [0.4] [2.2] Sums, differences, products and comparisons are exact and in lowest terms."""
        for one in FRACTIONS:
            for other in FRACTIONS:
                left, right = exact(one), exact(other)
                self.assertEqual(added(one, other), pair(left + right))
                self.assertEqual(subtracted(one, other), pair(left - right))
                self.assertEqual(multiplied(one, other), pair(left * right))
                self.assertIs(is_less(one, other), left < right)

    def test_equal_values_are_not_less(self):
        """[0.3] Fractions are compared by their values."""
        self.assertIs(is_less((1, 3), (2, 6)), False)
        self.assertIs(is_less((2, 6), (1, 3)), False)
        self.assertIs(is_less((-1, 2), (-1, 3)), True)

    def test_wrong_arguments(self):
        """[2.2] [0.8] The first argument is checked before the second."""
        for call in (added, subtracted, multiplied, is_less):
            for value in no_fractions():
                with self.subTest(call=call.__name__, value=repr(value)[:60]):
                    self.assertEqual(raised(call, value, 1), ("InvalidFraction", "one"))
                    self.assertEqual(raised(call, (1, 2), value), ("InvalidFraction", "other"))
                    self.assertEqual(raised(call, value, value), ("InvalidFraction", "one"))

    def test_by_name(self):
        """Parameters may be passed by name."""
        self.assertEqual(added(other=1, one=2), (3, 1))
        self.assertEqual(subtracted(other=1, one=3), (2, 1))
        self.assertEqual(multiplied(other=2, one=3), (6, 1))
        self.assertIs(is_less(other=1, one=2), False)


if __name__ == "__main__":
    unittest.main()
