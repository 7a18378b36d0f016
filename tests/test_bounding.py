"""The least bound, which fitted holds and rates are found by."""

import random
import unittest

from pageshares.bounding import least_bound


class TestLeastBound(unittest.TestCase):
    def check(self, gains, columns):
        """The heights bound rho from above, the uses reach it: so both are right."""
        rho, heights, uses, divisor = least_bound(gains, columns)
        self.assertGreater(divisor, 0)
        self.assertEqual([len(heights), len(uses), sum(uses)], [len(columns[0]), len(columns), divisor])
        self.assertGreaterEqual(min(heights + uses), 0)
        for gain, column in zip(gains, columns):
            self.assertGreaterEqual(rho, gain * divisor + sum(a * b for a, b in zip(heights, column)))
        for entries in zip(*columns):
            self.assertGreaterEqual(sum(a * b for a, b in zip(uses, entries)), 0)
        self.assertEqual(sum(a * b for a, b in zip(uses, gains)), rho)
        return rho, divisor

    def test_by_hand(self):
        """One column, and two that need one another."""
        self.assertEqual(self.check([7], [[0]]), (7, 1))
        rho, divisor = self.check([0, 1], [[-1, 1], [2, -1]])
        self.assertEqual(2 * rho, divisor)
        self.assertEqual(self.check([5, 3, 9], [[1, 0], [0, 2], [-1, -1]])[0] % 2, 1)

    def test_random_columns(self):
        """Columns like changes of outcomes and like signs, with long and with equal gains."""
        rng = random.Random(7)
        for size in range(1, 7):
            for _ in range(60):
                columns = [[rng.randrange(-1, 4) for _ in range(size)] for _ in range(rng.randrange(1, 24))]
                columns.append([rng.randrange(0, 3) for _ in range(size)])
                self.check([rng.randrange(-3, 4) for _ in columns], columns)
                self.check([rng.randrange(-10 ** 60, 10 ** 60) for _ in columns], columns)
                self.check([0 for _ in columns], columns)
                signs = [[rng.choice((-1, 1)) for _ in range(size)] for _ in range(40)] + [[0] * size]
                self.check([rng.randrange(-2, 3) for _ in signs], signs)

    def test_each_height_may_be_needed(self):
        """A column that lowers all entries can only be used as far as others raise each of them."""
        for size in range(1, 7):
            raising = [[int(place == other) for place in range(size)] for other in range(size)]
            rho, divisor = self.check([1] + [0] * size, [[-1] * size] + raising)
            self.assertEqual(rho * (size + 1), divisor)


if __name__ == "__main__":
    unittest.main()
