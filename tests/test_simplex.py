"""The simplex method itself: each optimum is shown to be one by its prices, or a ray shows that there is none."""

import itertools
import random
import unittest

from mostcrowds.simplex import Optimum, optimum

from tests.values import can_be_kept


def value(row, amounts):
    return sum(weight * amount for weight, amount in zip(row, amounts))


class Optima(unittest.TestCase):
    def assert_optimum(self, rows, limits, gains):
        found = optimum(rows, limits, gains)
        if found is None:
            self.assertTrue(self.has_ray(rows, gains))
            return None
        self.assertIs(type(found), Optimum)
        self.assertGreater(found.scale, 0)
        self.assertEqual((len(found.amounts), len(found.prices)), (len(gains), len(rows)))
        self.assertTrue(all(number >= 0 for number in [*found.amounts, *found.prices]))
        for row, limit in zip(rows, limits):
            self.assertLessEqual(value(row, found.amounts), limit * found.scale)
        for column, gain in enumerate(gains):
            self.assertGreaterEqual(value([row[column] for row in rows], found.prices), gain * found.scale)
        self.assertEqual(value(gains, found.amounts), found.gain)
        self.assertEqual(value(limits, found.prices), found.gain)
        return found

    def has_ray(self, rows, gains):
        """Whether amounts from 0 on bring a gain and exceed no limit however often they are taken."""
        words = ["least"] * len(rows) + ["more"]
        return can_be_kept(words, [[-weight for weight in row] for row in rows] + [gains])

    def test_told_ones(self):
        for rows, limits, gains, scale, gain in [
            ([[1]], [5], [1], 1, 5), ([[2]], [5], [1], 2, 5), ([[1]], [0], [1], 1, 0), ([[1]], [5], [-1], 1, 0), ([[1]], [5], [0], 1, 0),
            ([[1, 1], [1, 3]], [4, 6], [3, 5], 2, 28), ([], [], [0], 1, 0), ([], [], [-2, 0], 1, 0), ([[3, 2], [2, 3]], [1, 1], [1, 1], 5, 2),
        ]:
            found = self.assert_optimum(rows, limits, gains)
            self.assertEqual(found.gain * scale, gain * found.scale)

    def test_gains_without_bound(self):
        for rows, limits, gains in [([], [], [1]), ([[-1]], [0], [1]), ([[1, -1]], [3], [1, 0]), ([[0, 1]], [3], [1, 5])]:
            self.assertIsNone(optimum(rows, limits, gains))
            self.assertTrue(self.has_ray(rows, gains))

    def test_many_made_ones(self):
        source = random.Random(60)
        told = []
        for _ in range(1500):
            many, numbers = source.randrange(1, 6), source.choice([1, 3, 10, 10 ** 6])
            rows = [[source.randint(-numbers, numbers) for _ in range(many)] for _ in range(source.randrange(6))]
            limits = [source.choice([0, source.randint(0, numbers)]) for _ in rows]
            told.append(self.assert_optimum(rows, limits, [source.randint(-numbers, numbers) for _ in range(many)]))
        self.assertGreater(len([found for found in told if found is None]), 100)
        self.assertGreater(len([found for found in told if found is not None and found.gain > 0]), 100)
        self.assertGreater(len([found for found in told if found is not None and found.scale > 1]), 100)

    def test_tables_that_could_come_again(self):
        # With the greatest gain first, the steps of these two go round in circles (Chvatal; Beale): their weights are
        # fractions, so the last two amounts stand for what is left of the limits, in the units of the fractions.
        found = self.assert_optimum([[1, -11, -5, 18, 2, 0], [1, -3, -1, 2, 0, 2], [1, 0, 0, 0, 0, 0]], [0, 0, 1], [10, -57, -9, -24, 0, 0])
        self.assertEqual(found.gain, found.scale)
        found = self.assert_optimum(
            [[25, -6000, -4, 900, 100, 0], [50, -9000, -2, 300, 0, 100], [0, 0, 1, 0, 0, 0]], [0, 0, 1], [75, -15000, 2, -600, 0, 0]
        )
        self.assertEqual(found.gain, 5 * found.scale)
        found = self.assert_optimum([[1, -11, -5, 18], [1, -3, -1, 2], [1, 0, 0, 0]], [0, 0, 1], [10, -57, -9, -24])
        self.assertEqual(found.gain, found.scale)
        found = self.assert_optimum([[25, -6000, -4, 900], [50, -9000, -2, 300], [0, 0, 1, 0]], [0, 0, 1], [75, -15000, 2, -600])
        self.assertEqual(found.gain, 5 * found.scale)

    def test_degenerate_ones(self):
        source = random.Random(61)
        for _ in range(400):
            many = source.randrange(2, 7)
            rows = [[source.choice([-1, 0, 1]) for _ in range(many)] for _ in range(source.randrange(2, 8))]
            self.assert_optimum([*rows, [1] * many], [0] * len(rows) + [1], [source.choice([-1, 0, 1, 1]) for _ in range(many)])

    def test_what_was_passed_is_left_as_it_was(self):
        rows, limits, gains = [[1, 1], [1, 3]], [4, 6], [3, 5]
        first, second = optimum(rows, limits, gains), optimum(rows, limits, gains)
        self.assertEqual((rows, limits, gains), ([[1, 1], [1, 3]], [4, 6], [3, 5]))
        self.assertEqual(vars(first), vars(second))

    def test_all_small_ones(self):
        for weights in itertools.product((-1, 0, 2), repeat=4):
            for limits, gains in itertools.product([(0, 1), (1, 1), (3, 0)], [(1, 1), (-1, 2), (2, -1)]):
                self.assert_optimum([list(weights[:2]), list(weights[2:])], list(limits), list(gains))


if __name__ == "__main__":
    unittest.main()
