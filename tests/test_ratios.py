"""The arithmetic of fractions."""

import itertools
import unittest
from fractions import Fraction

from boxrows import ratios
from tests.rows import fraction, pair
from tests.wrong import NO_FRACTIONS, NO_NUMBERS

SOME = [pair(Fraction(top, bottom)) for top in range(-7, 8) for bottom in (1, 2, 3, 10 ** 40)]


class RatiosTest(unittest.TestCase):
    def test_kinds(self):
        for value in SOME:
            self.assertTrue(ratios.is_fraction(value) and ratios.is_rational(value))
            self.assertFalse(ratios.is_int(value))
        for value in (0, -1, 10 ** 100):
            self.assertTrue(ratios.is_int(value) and ratios.is_rational(value))
            self.assertFalse(ratios.is_fraction(value))
            self.assertEqual(ratios.as_fraction(value), (value, 1))
        for value in NO_NUMBERS + NO_FRACTIONS:
            self.assertFalse(ratios.is_int(value) or ratios.is_fraction(value) or ratios.is_rational(value))

    def test_two_fractions(self):
        for one, two in itertools.product(SOME, SOME):
            left, right = fraction(one), fraction(two)
            self.assertEqual(ratios.plus(one, two), pair(left + right))
            self.assertEqual(ratios.minus(one, two), pair(left - right))
            self.assertEqual(ratios.times(one, two), pair(left * right))
            if right > 0:
                self.assertEqual(ratios.over(one, two), pair(left / right))
            sign = ratios.order(one, two)
            self.assertEqual([sign < 0, sign == 0, sign > 0], [left < right, left == right, left > right])

    def test_one_fraction(self):
        for value in SOME:
            self.assertEqual(ratios.floor(value), fraction(value).__floor__())
            self.assertEqual(ratios.ceiling(value), fraction(value).__ceil__())
            self.assertEqual(ratios.lowest(value[0] * 6, value[1] * 6), value)
            self.assertEqual(ratios.as_fraction(value), value)

    def test_ascending(self):
        self.assertEqual(ratios.ascending(SOME + SOME), [pair(value) for value in sorted(set(map(fraction, SOME)))])
        self.assertEqual(ratios.ascending([]), [])
        close = [pair(Fraction(top, bottom)) for bottom in range(1, 60) for top in (bottom - 1, bottom, bottom + 1)]
        self.assertEqual(ratios.ascending(close), [pair(value) for value in sorted(set(map(fraction, close)))])


if __name__ == "__main__":
    unittest.main()
