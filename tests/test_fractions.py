"""[3]: whole numbers and fractions."""

import unittest
from fractions import Fraction

from helper import NOTHINGS, pair_of
from sharedways.fractions import NOUGHT, ONE, is_fraction, is_more, is_whole, minus, plus, reduced, times, total

SOME = [Fraction(top, under) for top in range(-7, 8) for under in range(1, 7)]


class WholeNumbers(unittest.TestCase):
    def test_ints_are_whole_numbers(self):
        for number in (0, 1, -1, 20, 10 ** 50, -10 ** 50):
            self.assertIs(is_whole(number), True)

    def test_others_are_none(self):
        for thing in (True, False, None, 1.0, "1", (1,), [1], {}, 1j, Fraction(1)):
            self.assertIs(is_whole(thing), False, thing)


class Fractions(unittest.TestCase):
    def test_fractions(self):
        for thing in (NOUGHT, (0, 1), (1, 1), (-1, 1), (1, 2), (-3, 2), (7, 1), (20, 21), (10 ** 40 + 1, 10 ** 40)):
            self.assertIs(is_fraction(thing), True, thing)

    def test_pairs_with_a_common_divisor_are_none(self):
        for thing in ((2, 2), (2, 4), (-2, 4), (0, 2), (0, 7), (15, 35), (2 * 10 ** 40, 10 ** 40)):
            self.assertIs(is_fraction(thing), False, thing)

    def test_unders_of_nought_or_below_are_none(self):
        for thing in ((0, 0), (1, 0), (-1, 0), (1, -1), (0, -1), (-1, -2), (1, -2)):
            self.assertIs(is_fraction(thing), False, thing)

    def test_truths_in_them_are_none(self):
        for thing in ((True, 1), (False, 1), (1, True), (0, True), (True, 2), (1, False)):
            self.assertIs(is_fraction(thing), False, thing)

    def test_other_things_are_none(self):
        forms = [[1, 2], [0, 1], (1,), (1, 2, 3), "12", Fraction(1)]
        parts = [(1.0, 2), (1, 2.0), ("1", "2"), (None, 1), (1, None)]
        for thing in forms + parts + NOTHINGS:
            self.assertIs(is_fraction(thing), False, thing)

    def test_all_small_pairs(self):
        for top in range(-12, 13):
            for under in range(-12, 13):
                wanted = under > 0 and pair_of(Fraction(top, under)) == (top, under)
                self.assertIs(is_fraction((top, under)), wanted)


class Reckoning(unittest.TestCase):
    def test_reduced(self):
        for top in range(-30, 31):
            for under in range(1, 31):
                self.assertEqual(reduced(top, under), pair_of(Fraction(top, under)))

    def test_sums_differences_products_and_order(self):
        for one in SOME:
            for other in SOME:
                self.assertEqual(plus(pair_of(one), pair_of(other)), pair_of(one + other))
                self.assertEqual(minus(pair_of(one), pair_of(other)), pair_of(one - other))
                self.assertEqual(times(pair_of(one), pair_of(other)), pair_of(one * other))
                self.assertIs(is_more(pair_of(one), pair_of(other)), one > other)

    def test_totals(self):
        self.assertEqual((NOUGHT, ONE), ((0, 1), (1, 1)))
        self.assertEqual(total([]), NOUGHT)
        for many in range(1, len(SOME)):
            self.assertEqual(total([pair_of(each) for each in SOME[:many]]), pair_of(sum(SOME[:many])))


if __name__ == "__main__":
    unittest.main()
