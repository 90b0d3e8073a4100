"""[1.4] and [1.5]: directions, their round order, arcs."""

import unittest

from plateheaps.directions import (
    back, between, comes_ahead, direction, in_arc, is_direction, quarter, towards,
)
from plateheaps.errors import BadDirection
from support import NUMBERS, odd_numbers, odd_values, small_directions, small_places

# The last ones ahead of (1, 0), and the first ones behind it.
LAST, FIRST = (10 ** 9, -1), (10 ** 9, 1)


class Making(unittest.TestCase):
    def test_common_divisors_and_signs(self):
        self.assertEqual(direction(4, 6), (2, 3))
        self.assertEqual(direction(-4, 6), (-2, 3))
        self.assertEqual(direction(0, -5), (0, -1))
        self.assertEqual(direction(7, 0), (1, 0))

    def test_all_numbers(self):
        for a in NUMBERS:
            for b in NUMBERS:
                if a != 0 or b != 0:
                    u = direction(a, b)
                    self.assertTrue(is_direction(u))
                    self.assertEqual(u[0] * b, u[1] * a)
                    self.assertGreater(u[0] * a + u[1] * b, 0)

    def test_no_integers(self):
        for worth in odd_numbers():
            for told in ((worth, 1), (1, worth)):
                with self.assertRaises(BadDirection):
                    direction(*told)

    def test_nowhere(self):
        for told in ((0, 0), (False, 0), (0, False)):
            with self.assertRaises(BadDirection):
                direction(*told)

    def test_back_and_quarter(self):
        row = small_directions()
        for k, u in enumerate(row):
            self.assertEqual(back(u), row[(k + 16) % 32])
            self.assertEqual(quarter(u), row[(k + 8) % 32])

    def test_towards(self):
        self.assertEqual(towards((1, 0, 2), (0, 1, 3)), (-3, 2))
        self.assertEqual(towards((0, 0, 1), (0, -1, 5)), (0, -1))
        for p in small_places():
            for q in small_places():
                if p != q:
                    self.assertEqual(towards(p, q), back(towards(q, p)))
                    self.assertTrue(is_direction(towards(p, q)))


class Telling(unittest.TestCase):
    def test_right_ones(self):
        for value in small_directions() + [LAST, FIRST]:
            self.assertIs(is_direction(value), True, value)

    def test_numbers_not_in_their_form(self):
        for value in ((0, 0), (2, 0), (0, -2), (2, 4), (-3, 3), [1, 2], (1, 2, 1), (1,)):
            self.assertIs(is_direction(value), False, value)

    def test_any_value(self):
        for value in odd_values():
            self.assertIs(is_direction(value), False, repr(value))
        self.assertIs(is_direction((True, 0)), False)


class Round(unittest.TestCase):
    def test_round_order(self):
        row = small_directions()
        for k, u in enumerate(row):
            for n, v in enumerate(row):
                self.assertIs(comes_ahead(u, v), k < n, (u, v))

    def test_the_last_ones_ahead_of_the_first_one(self):
        row = [(1, 0), FIRST] + small_directions()[1:] + [LAST]
        for k, u in enumerate(row):
            self.assertIs(comes_ahead(u, LAST), k < len(row) - 1)
            self.assertIs(comes_ahead(LAST, u), False)

    def test_arcs(self):
        row = small_directions()
        for k, u in enumerate(row):
            for n, v in enumerate(row):
                for m, w in enumerate(row):
                    wide = (n - k) % 32 or 32
                    self.assertIs(in_arc(u, v, w), 0 < (m - k) % 32 < wide, (u, v, w))

    def test_arcs_over_the_first_one(self):
        self.assertIs(in_arc(LAST, FIRST, (1, 0)), True)
        self.assertIs(in_arc(FIRST, LAST, (1, 0)), False)
        self.assertIs(in_arc((0, -1), (1, 0), LAST), True)
        self.assertIs(in_arc((1, 0), (0, 1), (1, 0)), False)


class Between(unittest.TestCase):
    def test_equal_ones_and_those_back(self):
        for u in small_directions():
            self.assertEqual(between(u, u), back(u))
            self.assertEqual(between(u, back(u)), quarter(u))

    def test_the_middle_as_it_is_told(self):
        self.assertEqual(between((1, 0), (0, 1)), (1, 1))
        self.assertEqual(between((3, 1), (1, 1)), (2, 1))
        self.assertEqual(between((1, 1), (3, 1)), (-2, -1))
        self.assertEqual(between((0, -1), (1, 0)), (1, -1))
        self.assertEqual(between((1, 0), (0, -1)), (-1, 1))
        self.assertEqual(between(LAST, FIRST), (1, 0))
        self.assertEqual(between(FIRST, LAST), (-1, 0))

    def test_always_in_the_arc(self):
        row = small_directions() + [LAST, FIRST]
        for u in row:
            for v in row:
                self.assertTrue(is_direction(between(u, v)))
                self.assertTrue(in_arc(u, v, between(u, v)), (u, v))


if __name__ == "__main__":
    unittest.main()
