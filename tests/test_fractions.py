"""[1.1]: fractions."""

import unittest
from fractions import Fraction

from plateheaps.fractions import divided, fraction, is_fraction, is_less, minus, plus, times_of
from support import NUMBERS, odd_values


def pair(worth):
    return (worth.numerator, worth.denominator)


def some_fractions():
    return [Fraction(p, q) for p in NUMBERS[:9] for q in (1, 2, 6, 10 ** 9 - 1)]


class Making(unittest.TestCase):
    def test_signs_and_common_divisors(self):
        self.assertEqual(fraction(6, 4), (3, 2))
        self.assertEqual(fraction(-6, 4), (-3, 2))
        self.assertEqual(fraction(6, -4), (-3, 2))
        self.assertEqual(fraction(-6, -4), (3, 2))

    def test_nought_is_one_fraction_alone(self):
        for q in (1, -1, 7, -10 ** 9):
            self.assertEqual(fraction(0, q), (0, 1))

    def test_all_numbers(self):
        for p in NUMBERS:
            for q in NUMBERS:
                if q != 0:
                    self.assertEqual(fraction(p, q), pair(Fraction(p, q)))
                    self.assertTrue(is_fraction(fraction(p, q)))


class Reckoning(unittest.TestCase):
    def test_sums_products_and_order(self):
        for one in some_fractions():
            for other in some_fractions():
                s, t = pair(one), pair(other)
                self.assertEqual(plus(s, t), pair(one + other))
                self.assertEqual(minus(s, t), pair(one - other))
                self.assertEqual(times_of(s, t), pair(one * other))
                self.assertIs(is_less(s, t), one < other)

    def test_quotients(self):
        for one in some_fractions():
            for other in some_fractions():
                if other != 0:
                    self.assertEqual(divided(pair(one), pair(other)), pair(one / other))

    def test_equal_ones_are_not_less(self):
        self.assertIs(is_less((1, 2), (1, 2)), False)
        self.assertIs(is_less((-1, 2), (-1, 3)), True)


class Telling(unittest.TestCase):
    def test_right_ones(self):
        for value in ((0, 1), (1, 1), (-1, 1), (-3, 2), (10 ** 39, 10 ** 39 - 1)):
            self.assertIs(is_fraction(value), True, value)

    def test_numbers_not_in_their_form(self):
        for value in ((0, 2), (2, 4), (1, 0), (0, 0), (1, -2), (-1, -2), (0, -1), (1, 2, 3), (1,), [1, 2]):
            self.assertIs(is_fraction(value), False, value)

    def test_any_value(self):
        for value in odd_values():
            self.assertIs(is_fraction(value), False, repr(value))
        self.assertIs(is_fraction((0, True)), False)


if __name__ == "__main__":
    unittest.main()
