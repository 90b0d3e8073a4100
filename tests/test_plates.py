"""[2.1] and [2.2]: plates, their places, sides, heights."""

import itertools
import unittest
from fractions import Fraction

from plateheaps.directions import back, quarter, towards
from plateheaps.errors import HeapError, NoPlaces
from plateheaps.halfplanes import has, height
from plateheaps.places import moved, scaled, turn
from plateheaps.plates import bottom, farthest, has_place, hull, is_met, is_plate, sides, top
from support import at, grid, halves, is_in, odd_values, points_of, small_directions, small_places, zoo


def middle(p, q):
    return scaled(moved(p, q), 1, 2)


class Hull(unittest.TestCase):
    def test_the_zoo_from_its_corners_in_any_order(self):
        for name, plate in zoo().items():
            for row in list(itertools.permutations(plate))[:200]:
                self.assertEqual(hull(list(row)), plate, name)

    def test_places_twice_and_places_within(self):
        for name, plate in zoo().items():
            more = list(plate) * 2 + [middle(p, q) for p in plate for q in plate]
            self.assertEqual(hull(more), plate, name)
            self.assertEqual(hull(tuple(more[::-1])), plate, name)

    def test_one_place_many_times(self):
        self.assertEqual(hull(points_of("1/2,1 1/2,1 1/2,1")), ((1, 2, 2),))

    def test_all_in_one_line(self):
        self.assertEqual(hull(points_of("0,0 3,1 -3,-1 6,2 6,2 1,1/3")), tuple(points_of("-3,-1 6,2")))
        self.assertEqual(hull(points_of("1,2 1,-1/3 1,7 1,0")), tuple(points_of("1,-1/3 1,7")))
        self.assertEqual(hull(points_of("2,5 1,5 3/2,5")), tuple(points_of("1,5 2,5")))

    def test_places_in_the_middle_of_a_side(self):
        told = points_of("0,0 1,0 2,0 2,1 2,2 1,2 0,2 0,1 1,1")
        self.assertEqual(hull(told), tuple(points_of("0,0 2,0 2,2 0,2")))

    def test_it_is_the_least_plate(self):
        row = small_places()
        for start in range(0, 20, 3):
            for step in (1, 4, 7, 11):
                told = [row[(start + step * k) % len(row)] for k in range(6)]
                plate = hull(told)
                self.assertTrue(set(plate) <= set(told))
                for p in told:
                    self.assertTrue(is_in(plate, p))
                for corner in plate:
                    rest = [p for p in told if p != corner]
                    self.assertTrue(not rest or not is_in(hull(rest), corner))

    def test_no_places(self):
        for nothing in ([], ()):
            with self.assertRaises(NoPlaces):
                hull(nothing)

    def test_what_is_passed_stays_as_it_was(self):
        told = points_of("2,0 0,0 0,2 0,0")
        hull(told)
        self.assertEqual(told, points_of("2,0 0,0 0,2 0,0"))

    def test_numbers_near_to_one_another(self):
        n = 10 ** 9 - 1
        told = [(1, 1, n), (1, 1, n - 1), (1, 1, n - 2), (0, 0, 1), (n, n - 1, n - 2)]
        for row in itertools.permutations(told):
            self.assertEqual(hull(list(row)), ((0, 0, 1), (n, n - 1, n - 2), (1, 1, n - 2)))

    def test_long_numbers_in_order(self):
        n = 10 ** 40
        told = [(n - k, k, n + k) for k in range(1, 6)]
        told = [p for p in told if is_plate((p,))]
        low, high = min(told, key=at), max(told, key=at)
        self.assertEqual(hull(told)[0], low)
        self.assertIn(high, hull(told))


class Telling(unittest.TestCase):
    def test_the_zoo(self):
        for name, plate in zoo().items():
            self.assertIs(is_plate(plate), True, name)

    def test_the_least_place_stands_first(self):
        for name, plate in zoo().items():
            for k in range(1, len(plate)):
                self.assertIs(is_plate(plate[k:] + plate[:k]), False, name)

    def test_clockwise_or_turned_about(self):
        for name, plate in zoo().items():
            if len(plate) > 1:
                self.assertIs(is_plate(plate[::-1]), False, name)
                self.assertIs(is_plate(plate[:1] + plate[:0:-1]), len(plate) == 2, name)

    def test_corners_in_the_middle_of_a_side_or_twice(self):
        for name, plate in zoo().items():
            for k, p in enumerate(plate):
                q = plate[(k + 1) % len(plate)]
                self.assertIs(is_plate(plate[:k + 1] + (middle(p, q),) + plate[k + 1:]), False, name)
                self.assertIs(is_plate(plate[:k + 1] + plate[k:]), False, name)

    def test_equal_ends_and_a_way_round_twice(self):
        self.assertIs(is_plate(((0, 0, 1), (0, 0, 1))), False)
        self.assertIs(is_plate(tuple(points_of("0,0 2,0 1,0"))), False)
        self.assertIs(is_plate(tuple(points_of("0,0 4,0 1,3 2,-1 3,3"))), False)
        self.assertIs(is_plate(zoo()["box"] * 2), False)

    def test_corners_that_go_inward(self):
        self.assertIs(is_plate(tuple(points_of("0,0 2,0 1/2,1/2 0,2"))), False)

    def test_numbers_not_in_their_form(self):
        for p in ((0, 0, 2), (2, 2, 2), (0, 0, 0), (1, 1, -1), (0, 0, True), (False, 0, 1), (0, 0), [0, 0, 1], None):
            for plate in zoo().values():
                self.assertIs(is_plate((p,)), False)
                self.assertIs(is_plate((p,) + plate), False)
                self.assertIs(is_plate(plate[1:] + (p,)), False)

    def test_any_value(self):
        for value in odd_values():
            self.assertIs(is_plate(value), value == ((1, 2, 1),), repr(value))
        for plate in zoo().values():
            self.assertIs(is_plate(list(plate)), False)
            self.assertIs(is_plate((plate,)), False)
            self.assertIs(is_plate(tuple([list(p) for p in plate])), False)
            self.assertIs(is_plate({p: True for p in plate}), False)


class Having(unittest.TestCase):
    def test_each_place_of_a_grid(self):
        for name, plate in zoo().items():
            for p in grid() + [p for other in zoo().values() for p in other]:
                self.assertIs(has_place(plate, p), is_in(plate, p), (name, p))

    def test_ends_and_middles(self):
        for plate in zoo().values():
            for p in plate:
                for q in plate:
                    self.assertIs(has_place(plate, middle(p, q)), True)

    def test_beyond_the_ends_of_a_stretch(self):
        stretch = zoo()["slant"]
        for word in ("-5/2,-2", "7/2,2", "1/2,1/3"):
            self.assertIs(has_place(stretch, points_of(word)[0]), False)
        upright = zoo()["upright"]
        for word in ("1,-2", "1,2", "1,3"):
            self.assertIs(has_place(upright, points_of(word)[0]), False)


class Sides(unittest.TestCase):
    def test_of_a_point(self):
        self.assertEqual(sides(zoo()["point"]), [])

    def test_of_stretches(self):
        for name in ("flat", "upright", "slant", "short"):
            p, q = zoo()[name]
            (one, a, b), (other, c, d) = sides((p, q))
            self.assertEqual(((a, b), (c, d)), ((p, q), (q, p)))
            self.assertEqual((one, other), (back(quarter(towards(p, q))), quarter(towards(p, q))))
        self.assertEqual(sides(zoo()["flat"])[0][0], (0, -1))
        self.assertEqual(sides(zoo()["upright"])[0][0], (1, 0))

    def test_of_pieces(self):
        for plate in zoo().values():
            if len(plate) > 2:
                found = sides(plate)
                self.assertEqual([(p, q) for _, p, q in found], list(zip(plate, plate[1:] + plate[:1])))
                for u, p, q in found:
                    self.assertEqual(height(u, p), height(u, q))
                    self.assertEqual(turn(p, q, moved(p, (u[0], u[1], 1))), -1)
                    for r in plate:
                        self.assertTrue(r in (p, q) or Fraction(*height(u, r)) < Fraction(*height(u, p)))

    def test_numbers_of_a_normal_have_no_common_divisor(self):
        self.assertEqual([u for u, p, q in sides(tuple(points_of("0,0 4,2 0,6")))], [(1, -2), (1, 1), (-1, 0)])

    def test_a_new_list_each_time(self):
        found = sides(zoo()["tri"])
        found.clear()
        self.assertEqual(len(sides(zoo()["tri"])), 3)
        self.assertIs(type(found), list)


class Heights(unittest.TestCase):
    def test_top_and_bottom(self):
        for plate in zoo().values():
            for u in small_directions():
                tall = [Fraction(*height(u, p)) for p in plate]
                self.assertEqual(top(plate, u), (max(tall).numerator, max(tall).denominator))
                self.assertEqual(bottom(plate, u), (min(tall).numerator, min(tall).denominator))

    def test_farthest_in_any_direction(self):
        for name, plate in zoo().items():
            ends = {u: [p, q] for u, p, q in sides(plate)}
            for u in small_directions() + list(ends):
                found = farthest(plate, u)
                if u in ends:
                    self.assertEqual(found, ends[u], name)
                else:
                    self.assertEqual(found, [p for p in plate if height(u, p) == top(plate, u)])
                    self.assertEqual(len(found), 1)

    def test_farthest_is_a_new_list(self):
        found = farthest(zoo()["tri"], (1, 1))
        found.append(None)
        self.assertEqual(farthest(zoo()["tri"], (1, 1)), [(2, 0, 1), (0, 2, 1)])


class Meeting(unittest.TestCase):
    def test_is_met(self):
        for plate in zoo().values():
            for plane in halves():
                met = any(has(plane, p) for p in plate)
                self.assertIs(is_met(plate, plane), met)

    def test_at_a_corner_and_along_a_side(self):
        self.assertIs(is_met(zoo()["box"], (1, 1, 2)), True)
        self.assertIs(is_met(zoo()["box"], (1, 0, 1)), True)
        self.assertIs(is_met(zoo()["box"], (100, 0, 101)), False)
        self.assertIs(is_met(zoo()["point"], (2, 0, 1)), True)
        self.assertIs(is_met(zoo()["flat"], (0, 1, 0)), True)


class Families(unittest.TestCase):
    def test_no_places_is_a_heap_error(self):
        with self.assertRaises(HeapError):
            hull([])


if __name__ == "__main__":
    unittest.main()
