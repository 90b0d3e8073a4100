"""[1.6], [1.7] and [1.8]: half planes and heights."""

import unittest
from fractions import Fraction

from plateheaps.errors import BadHalf
from plateheaps.halfplanes import (
    crossing, facing, half, half_at, half_from, has, height, is_half, normal, on_line,
)
from plateheaps.places import is_place
from support import NUMBERS, at, odd_numbers, odd_values, small_directions, small_places


def some_halves():
    return [half(a, b, c) for a, b in ((1, 0), (0, -2), (2, 4), (-3, 1), (2, 2)) for c in (-3, -1, 0, 1, 2)]


class Making(unittest.TestCase):
    def test_common_divisors_and_signs(self):
        self.assertEqual(half(2, 4, 6), (1, 2, 3))
        self.assertEqual(half(2, 4, 3), (2, 4, 3))
        self.assertEqual(half(-2, 0, -4), (-1, 0, -2))
        self.assertEqual(half(0, 5, 0), (0, 1, 0))

    def test_all_numbers(self):
        for a in NUMBERS:
            for b in NUMBERS:
                for c in NUMBERS:
                    if a != 0 or b != 0:
                        made = half(a, b, c)
                        self.assertTrue(is_half(made))
                        self.assertEqual((made[0] * c, made[1] * c), (a * made[2], b * made[2]))
                        self.assertGreater(made[0] * a + made[1] * b, 0)

    def test_no_integers(self):
        for worth in odd_numbers():
            for told in ((worth, 1, 1), (1, worth, 1), (1, 1, worth)):
                with self.assertRaises(BadHalf):
                    half(*told)

    def test_no_line(self):
        for told in ((0, 0, 0), (0, 0, 1), (0, False, 1)):
            with self.assertRaises(BadHalf):
                half(*told)


class Telling(unittest.TestCase):
    def test_right_ones(self):
        for value in some_halves() + [(1, 0, 0), (2, 4, 3), (0, -1, 0), (6, 10, 15)]:
            self.assertIs(is_half(value), True, value)

    def test_numbers_not_in_their_form(self):
        for value in ((0, 0, 1), (0, 0, 0), (2, 4, 6), (2, 0, 0), (0, -2, 4), [1, 0, 0], (1, 0), (1, 0, 0, 1)):
            self.assertIs(is_half(value), False, value)

    def test_any_value(self):
        for value in odd_values():
            self.assertIs(is_half(value), False, repr(value))
        self.assertIs(is_half((1, 0, False)), False)


class Having(unittest.TestCase):
    def test_places_on_each_side(self):
        for plane in some_halves():
            for p in small_places():
                x, y = at(p)
                over = plane[0] * x + plane[1] * y - plane[2]
                self.assertIs(has(plane, p), over >= 0)
                self.assertIs(on_line(plane, p), over == 0)
                self.assertIs(has(facing(plane), p), over <= 0)

    def test_facing_and_normal(self):
        self.assertEqual(facing((1, 2, 3)), (-1, -2, -3))
        self.assertEqual(facing((0, -1, 0)), (0, 1, 0))
        self.assertEqual(normal((2, 4, 3)), (1, 2))
        self.assertEqual(normal((0, -6, 1)), (0, -1))
        for plane in some_halves():
            self.assertTrue(is_half(facing(plane)))


class Crossing(unittest.TestCase):
    def test_on_both_lines(self):
        for one in some_halves():
            for other in some_halves():
                p = crossing(one, other)
                if one[0] * other[1] == one[1] * other[0]:
                    self.assertIsNone(p)
                else:
                    self.assertTrue(is_place(p))
                    self.assertTrue(on_line(one, p) and on_line(other, p))
                    self.assertEqual(p, crossing(other, facing(one)))

    def test_parallel_and_one_line(self):
        self.assertIsNone(crossing((1, 2, 3), (1, 2, 3)))
        self.assertIsNone(crossing((1, 2, 3), (-1, -2, -3)))
        self.assertIsNone(crossing((1, 2, 3), (2, 4, 5)))
        self.assertIsNone(crossing((1, 2, 3), (-1, -2, 4)))


class Heights(unittest.TestCase):
    def test_height(self):
        for u in small_directions():
            for p in small_places():
                x, y = at(p)
                tall = u[0] * x + u[1] * y
                self.assertEqual(height(u, p), (tall.numerator, tall.denominator))

    def test_half_planes_from_a_height_on(self):
        for u in small_directions():
            for h in ((0, 1), (-1, 2), (5, 3)):
                plane = half_from(u, h)
                self.assertTrue(is_half(plane))
                self.assertEqual(normal(plane), u)
                for p in small_places():
                    self.assertIs(has(plane, p), Fraction(*height(u, p)) >= Fraction(*h))

    def test_half_planes_from_a_place_on(self):
        for u in small_directions():
            for p in small_places():
                self.assertEqual(half_at(u, p), half_from(u, height(u, p)))
                self.assertTrue(on_line(half_at(u, p), p))

    def test_what_the_package_returned_may_be_longer(self):
        long = crossing((10 ** 9 - 1, 7, 10 ** 9 - 3), (10 ** 9 - 5, -11, 10 ** 9 - 7))
        self.assertGreater(long[2], 10 ** 9)
        far = crossing(half_at((10 ** 9 - 9, 10 ** 9 - 11), long), half_at((3, -10 ** 9 + 1), long))
        self.assertEqual(far, long)


if __name__ == "__main__":
    unittest.main()
