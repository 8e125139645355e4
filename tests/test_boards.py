"""Boards: the reckoning behind the shares."""

import unittest
from copy import deepcopy
from fractions import Fraction
from random import Random

from helper import are_plain_amounts
from sharedways.boards import best


def dot(numbers, fractions):
    return sum((number * Fraction(*fraction) for number, fraction in zip(numbers, fractions)), Fraction(0))


class Best(unittest.TestCase):
    def is_best(self, goal, rows, bounds):
        """The amounts keep the bounds, the prices are enough for the goal, and both come to the same."""
        before = deepcopy((goal, rows, bounds))
        amounts, prices = best(goal, rows, bounds)
        self.assertEqual((goal, rows, bounds), before)
        self.assertTrue(are_plain_amounts(amounts, len(goal)), amounts)
        self.assertTrue(are_plain_amounts(prices, len(rows)), prices)
        for row, bound in zip(rows, bounds):
            self.assertLessEqual(dot(row, amounts), Fraction(*bound), (goal, rows, bounds))
        for number, worth in enumerate(goal):
            self.assertGreaterEqual(dot([row[number] for row in rows], prices), worth, (goal, rows, bounds))
        worths = [Fraction(*bound) for bound in bounds]
        self.assertEqual(dot(goal, amounts), dot(worths, prices), (goal, rows, bounds))
        return amounts, prices

    def test_one_bound(self):
        self.assertEqual(self.is_best([1], [[2]], [(3, 1)]), ([(3, 2)], [(1, 2)]))
        self.assertEqual(self.is_best([1], [[2]], [(3, 5)]), ([(3, 10)], [(1, 2)]))
        self.assertEqual(self.is_best([1, 3], [[1, 1]], [(5, 1)]), ([(0, 1), (5, 1)], [(3, 1)]))

    def test_nothing_is_gained(self):
        self.assertEqual(self.is_best([0], [[1]], [(3, 1)]), ([(0, 1)], [(0, 1)]))
        self.assertEqual(self.is_best([-1, -2], [[1, 1]], [(3, 1)])[0], [(0, 1), (0, 1)])
        self.assertEqual(self.is_best([1], [[1]], [(0, 1)])[0], [(0, 1)])

    def test_bounds_below_nought(self):
        self.assertEqual(self.is_best([-1], [[-2]], [(-3, 1)]), ([(3, 2)], [(1, 2)]))
        self.assertEqual(self.is_best([1, 0], [[1, 1], [0, -1]], [(5, 1), (-2, 1)])[0], [(3, 1), (2, 1)])
        self.assertEqual(self.is_best([1, 0], [[1, 1], [0, -1]], [(5, 3), (-1, 2)])[0], [(7, 6), (1, 2)])

    def test_bounds_that_meet_in_one_point(self):
        # Each of the bounds alone would do: many boards stand for the same amounts.
        self.is_best([1, 1], [[1, 0], [0, 1], [1, 1], [2, 1], [1, 2]], [(1, 1), (1, 1), (2, 1), (3, 1), (3, 1)])
        self.is_best([1, 0, 0], [[1, -1, 0], [1, 0, -1], [0, 1, 1]], [(0, 1), (0, 1), (1, 1)])

    def test_a_known_ring_of_boards_ends(self):
        # Beale's: the column with the greatest gain, taken each time, comes round to the first board for ever.
        goal = [75, -15000, 2, -600]
        rows = [[25, -6000, -4, 900], [50, -9000, -2, 300], [0, 0, 1, 0]]
        amounts, prices = self.is_best(goal, rows, [(0, 1), (0, 1), (1, 1)])
        self.assertEqual(dot(goal, amounts), 5)

    def test_drawn_bounds(self):
        draw = Random(51)
        seen = 0
        for each in range(600):
            columns, many = draw.randint(1, 6), draw.randint(1, 6)
            rows = [[draw.randint(-4, 4) for column in range(columns)] for row in range(many)]
            # Some amounts keep the bounds, since each bound is made from them, and one more row bounds all amounts.
            point = [Fraction(draw.randint(0, 3), draw.randint(1, 4)) for column in range(columns)]
            bounds = [sum(a * b for a, b in zip(row, point)) + draw.choice([0, 0, 1]) for row in rows]
            rows.append([1] * columns)
            bounds.append(sum(point) + draw.randint(0, 2))
            pairs = [(bound.numerator, bound.denominator) for bound in map(Fraction, bounds)]
            seen += min(pairs)[0] < 0
            self.is_best([draw.randint(-4, 4) for column in range(columns)], rows, pairs)
        self.assertGreater(seen, 150)


if __name__ == "__main__":
    unittest.main()
