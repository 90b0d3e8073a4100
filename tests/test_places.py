"""[1.2] and [1.3]: places and turns."""

import unittest
from fractions import Fraction

from plateheaps.errors import BadPlace
from plateheaps.places import apart, comes_first, is_place, moved, place, scaled, turn
from support import NUMBERS, as_place, at, odd_numbers, odd_values, small_places

FAR = [(10 ** 9 - 1, -(10 ** 9 - 1), 10 ** 9 - 2), (1, 10 ** 40, 10 ** 40 - 1), (10 ** 40, 1, 7)]


class Making(unittest.TestCase):
    def test_signs_and_common_divisors(self):
        self.assertEqual(place(2, 4, 6), (1, 2, 3))
        self.assertEqual(place(2, 4, -6), (-1, -2, 3))
        self.assertEqual(place(2, 3, 6), (2, 3, 6))
        self.assertEqual(place(0, 0, -5), (0, 0, 1))
        self.assertEqual(place(0, 4, 2), (0, 2, 1))

    def test_all_numbers(self):
        for x in NUMBERS:
            for y in NUMBERS:
                for d in NUMBERS[1:]:
                    p = place(x, y, d)
                    self.assertTrue(is_place(p))
                    self.assertEqual(at(p), (Fraction(x, d), Fraction(y, d)))

    def test_no_integers(self):
        for worth in odd_numbers():
            for told in ((worth, 1, 1), (1, worth, 1), (1, 1, worth)):
                with self.assertRaises(BadPlace):
                    place(*told)

    def test_nothing_below_the_line(self):
        for told in ((0, 0, 0), (1, 2, 0), (1, 2, False)):
            with self.assertRaises(BadPlace):
                place(*told)


class Telling(unittest.TestCase):
    def test_right_ones(self):
        for value in [(0, 0, 1), (2, 0, 1), (-1, 0, 2), (2, 2, 3), (6, 10, 15)] + FAR[:1] + small_places():
            self.assertIs(is_place(value), True, value)

    def test_numbers_not_in_their_form(self):
        for value in ((0, 0, 2), (2, 4, 6), (1, 1, 0), (0, 0, 0), (1, 1, -1), (-2, -4, -6), (0, 0, -1), [0, 0, 1]):
            self.assertIs(is_place(value), False, value)

    def test_any_value(self):
        for value in odd_values():
            self.assertIs(is_place(value), False, repr(value))


class Order(unittest.TestCase):
    def test_by_the_first_and_then_the_second_coordinates(self):
        row = small_places()
        for k, p in enumerate(row):
            for n, q in enumerate(row):
                self.assertIs(comes_first(p, q), k < n, (p, q))

    def test_long_numbers(self):
        for p in FAR:
            for q in FAR:
                self.assertIs(comes_first(p, q), at(p) < at(q))


class Moving(unittest.TestCase):
    def test_sums_and_differences(self):
        for p in small_places() + FAR:
            for q in small_places() + FAR:
                (a, b), (c, d) = at(p), at(q)
                self.assertEqual(at(moved(p, q)), (a + c, b + d))
                self.assertEqual(at(apart(p, q)), (a - c, b - d))
                self.assertTrue(is_place(moved(p, q)) and is_place(apart(p, q)))

    def test_scaled(self):
        for p in small_places() + FAR:
            for m in (0, 1, -2, 6):
                for n in (1, -1, 4, -6):
                    made = scaled(p, m, n)
                    self.assertTrue(is_place(made))
                    self.assertEqual(at(made), tuple([c * m / n for c in at(p)]))
        self.assertEqual(scaled((1, 2, 3), 0, -5), (0, 0, 1))

    def test_to_itself(self):
        self.assertEqual(apart((1, 2, 3), (1, 2, 3)), (0, 0, 1))
        self.assertEqual(moved((1, 1, 2), (1, 1, 2)), (1, 1, 1))


class Turning(unittest.TestCase):
    def test_left_right_and_straight(self):
        self.assertEqual(turn((0, 0, 1), (1, 0, 1), (0, 1, 1)), 1)
        self.assertEqual(turn((0, 0, 1), (1, 0, 1), (0, -1, 1)), -1)
        self.assertEqual(turn((0, 0, 1), (1, 0, 1), (5, 0, 3)), 0)

    def test_equal_places(self):
        for r in small_places():
            self.assertEqual(turn((1, 1, 2), (1, 1, 2), r), 0)
            self.assertEqual(turn((1, 1, 2), r, r), 0)
            self.assertEqual(turn(r, (1, 1, 2), r), 0)

    def test_all_small_places(self):
        row = small_places()
        for p in row:
            for q in row[::3]:
                for r in row:
                    (a, b), (c, d), (e, f) = at(p), at(q), at(r)
                    left = (c - a) * (f - b) - (d - b) * (e - a)
                    self.assertEqual(turn(p, q, r), (left > 0) - (left < 0))

    def test_as_near_as_one_likes(self):
        p, q = (0, 0, 1), (10 ** 40, 10 ** 40 - 1, 1)
        middle = as_place(Fraction(10 ** 40, 2), Fraction(10 ** 40 - 1, 2))
        self.assertEqual(turn(p, q, middle), 0)
        self.assertEqual(turn(p, q, moved(middle, (0, 1, 10 ** 40))), 1)
        self.assertEqual(turn(p, q, moved(middle, (0, -1, 10 ** 40))), -1)


if __name__ == "__main__":
    unittest.main()
