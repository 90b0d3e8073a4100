"""[2.3] to [2.6]: cutting, meeting, putting, mirroring, leading by maps, insides."""

import unittest
from fractions import Fraction

from plateheaps.halfplanes import half, has
from plateheaps.laying import cut_plate, inside, is_map, led, led_place, meet, mirror, put
from plateheaps.places import comes_first, moved
from plateheaps.plates import hull, is_plate
from support import Dice, as_place, at, grid, halves, is_in, odd_values, points_of, small_places, zoo

MAPS = [
    (1, 0, 0, 1, 0, 0, 1), (0, -1, 1, 0, 1, 0, 2), (1, 0, 0, 0, 0, 0, 1), (0, 0, 0, 0, 3, -1, 2),
    (-2, 0, 0, 3, 1, 1, 3), (1, 2, 2, 4, -5, 1, 7), (0, 1, 1, 0, 0, 0, 5),
]


def plate_of(text):
    return tuple(points_of(text))


class Cutting(unittest.TestCase):
    def test_just_the_places_of_both(self):
        for name, plate in zoo().items():
            for plane in halves():
                left = cut_plate(plate, plane)
                if left is None:
                    self.assertFalse(any(has(plane, p) for p in plate), (name, plane))
                    continue
                self.assertTrue(is_plate(left))
                for p in left:
                    self.assertTrue(is_in(plate, p) and has(plane, p), (name, plane))
                for p in grid():
                    self.assertEqual(is_in(left, p), is_in(plate, p) and has(plane, p), (name, plane, p))

    def test_lines_through_a_corner(self):
        tri = zoo()["tri"]
        self.assertEqual(cut_plate(tri, (1, -1, 0)), plate_of("0,0 2,0 1,1"))
        self.assertEqual(cut_plate(tri, (1, 0, 2)), plate_of("2,0"))
        self.assertEqual(cut_plate(tri, (-1, -1, 0)), plate_of("0,0"))
        self.assertEqual(cut_plate(zoo()["diamond"], (1, 0, 0)), plate_of("0,0 1,1 0,2"))

    def test_lines_along_a_side(self):
        tri = zoo()["tri"]
        self.assertEqual(cut_plate(tri, (-1, 0, 0)), plate_of("0,0 0,2"))
        self.assertEqual(cut_plate(tri, (1, 0, 0)), tri)
        self.assertEqual(cut_plate(tri, (1, 1, 2)), plate_of("0,2 2,0"))
        self.assertEqual(cut_plate(zoo()["flat"], (0, 1, 0)), zoo()["flat"])
        self.assertEqual(cut_plate(zoo()["flat"], (0, -1, 0)), zoo()["flat"])

    def test_stretches_and_points(self):
        self.assertEqual(cut_plate(zoo()["flat"], (1, 0, 1)), plate_of("1,0 2,0"))
        self.assertEqual(cut_plate(zoo()["flat"], (-3, 0, -1)), plate_of("0,0 1/3,0"))
        self.assertEqual(cut_plate(zoo()["flat"], (1, 0, 2)), plate_of("2,0"))
        self.assertEqual(cut_plate(zoo()["slant"], (0, -1, 0)), plate_of("-1,-1 1/2,0"))
        self.assertEqual(cut_plate(zoo()["point"], (2, 0, 1)), zoo()["point"])
        self.assertIsNone(cut_plate(zoo()["point"], (2, 0, 2)))
        self.assertIsNone(cut_plate(zoo()["flat"], (1, 0, 3)))

    def test_places_that_are_no_corners(self):
        self.assertEqual(cut_plate(zoo()["tri"], (3, 0, 1)), plate_of("1/3,0 2,0 1/3,5/3"))
        self.assertEqual(cut_plate(zoo()["box"], (2, 3, 1)), plate_of("0,1/3 1/2,0 1,0 1,1 0,1"))


class Meeting(unittest.TestCase):
    def test_just_the_places_of_both(self):
        for one in zoo().values():
            for other in zoo().values():
                both = meet(one, other)
                self.assertEqual(both, meet(other, one))
                found = [p for p in grid() + list(one + other) if is_in(one, p) and is_in(other, p)]
                if both is None:
                    self.assertEqual(found, [], (one, other))
                    continue
                self.assertTrue(is_plate(both))
                for p in both:
                    self.assertTrue(is_in(one, p) and is_in(other, p), (one, other))
                for p in found:
                    self.assertTrue(is_in(both, p), (one, other))

    def test_one_corner_in_common(self):
        self.assertEqual(meet(zoo()["box"], plate_of("1,1 2,1 2,2 1,2")), plate_of("1,1"))
        self.assertEqual(meet(zoo()["flat"], plate_of("2,0 3,1")), plate_of("2,0"))
        self.assertEqual(meet(zoo()["flat"], plate_of("2,0 3,0")), plate_of("2,0"))
        self.assertEqual(meet(zoo()["tri"], plate_of("1,1 3,3")), plate_of("1,1"))
        self.assertEqual(meet(zoo()["tri"], plate_of("-1,-1 0,0")), plate_of("0,0"))

    def test_one_side_in_common(self):
        self.assertEqual(meet(zoo()["box"], plate_of("1,0 2,0 2,1 1,1")), plate_of("1,0 1,1"))
        self.assertEqual(meet(zoo()["box"], plate_of("1,1/2 2,0 1,3")), plate_of("1,1/2 1,1"))
        self.assertEqual(meet(zoo()["tri"], zoo()["flat"]), zoo()["flat"])
        self.assertEqual(meet(plate_of("-1,0 1,0"), zoo()["tri"]), plate_of("0,0 1,0"))

    def test_stretches_in_one_line_and_across(self):
        self.assertEqual(meet(zoo()["flat"], plate_of("1,0 3,0")), plate_of("1,0 2,0"))
        self.assertEqual(meet(zoo()["flat"], plate_of("1/2,0 1,0")), plate_of("1/2,0 1,0"))
        self.assertEqual(meet(zoo()["flat"], zoo()["upright"]), plate_of("1,0"))
        self.assertIsNone(meet(zoo()["flat"], plate_of("0,1 2,1")))
        self.assertIsNone(meet(zoo()["flat"], plate_of("3,0 4,0")))
        self.assertIsNone(meet(zoo()["flat"], plate_of("3,-1 3,1")))

    def test_plates_that_do_not_meet(self):
        for name, plate in zoo().items():
            if name != "far":
                self.assertIsNone(meet(plate, zoo()["far"]))
        self.assertIsNone(meet(zoo()["tri"], plate_of("2,1 2,2 1,2")))
        self.assertIsNone(meet(zoo()["point"], zoo()["lone"]))

    def test_pieces_across_one_another(self):
        self.assertEqual(meet(plate_of("0,0 3,0 3,1 0,1"), plate_of("1,-1 2,-1 2,2 1,2")), plate_of("1,0 2,0 2,1 1,1"))
        self.assertEqual(meet(zoo()["wide"], zoo()["box"]), zoo()["box"])


class Putting(unittest.TestCase):
    def test_all_sums_and_no_more(self):
        for one in zoo().values():
            for other in zoo().values():
                whole = put(one, other)
                self.assertTrue(is_plate(whole))
                self.assertEqual(whole, put(other, one))
                sums = [moved(p, q) for p in one for q in other]
                for p in sums:
                    self.assertTrue(is_in(whole, p))
                self.assertTrue(set(whole) <= set(sums))

    def test_the_hull_of_all_sums(self):
        dice = Dice(7)
        for k in range(600):
            one, other = dice.plate(k % 4 + 1, k % 3 + 1, k % 7 + 1), dice.plate(k % 3 + 1, k % 4 + 1, k % 5 + 1)
            self.assertEqual(put(one, other), hull([moved(p, q) for p in one for q in other]))

    def test_points_stretches_and_pieces(self):
        self.assertEqual(put(zoo()["point"], zoo()["point"]), plate_of("1,2"))
        self.assertEqual(put(zoo()["origin"], zoo()["five"]), zoo()["five"])
        self.assertEqual(put(zoo()["flat"], zoo()["flat"]), plate_of("0,0 4,0"))
        self.assertEqual(put(zoo()["flat"], plate_of("0,0 0,1")), plate_of("0,0 2,0 2,1 0,1"))
        self.assertEqual(put(zoo()["tri"], plate_of("0,0 1,1")), plate_of("0,0 2,0 3,1 1,3 0,2"))

    def test_mirror(self):
        self.assertEqual(mirror(zoo()["tri"]), plate_of("-2,0 0,-2 0,0"))
        self.assertEqual(mirror(zoo()["slant"]), plate_of("-2,-1 1,1"))
        for plate in zoo().values():
            self.assertTrue(is_plate(mirror(plate)))
            self.assertEqual(mirror(mirror(plate)), plate)
            for p in grid():
                self.assertEqual(is_in(mirror(plate), (-p[0], -p[1], p[2])), is_in(plate, p))


class Maps(unittest.TestCase):
    def test_right_ones(self):
        more = [(0, 0, 0, 0, 0, 0, 1), (2, 4, 6, 8, 10, 12, 1), (2, 4, 6, 8, 10, 13, 2), (6, 10, 15) * 2 + (30,)]
        for value in MAPS + more:
            self.assertIs(is_map(value), True, value)

    def test_numbers_not_in_their_form(self):
        one = (0, -1, 1, 0, 1, 0, 2)
        self.assertIs(is_map(tuple([2 * k for k in one])), False)
        for value in (one[:6] + (0,), one[:6] + (-2,), one[:6], one + (1,), list(one), (0, 0, 0, 0, 0, 0, 2), (0,) * 7):
            self.assertIs(is_map(value), False, value)

    def test_each_part_is_an_integer(self):
        for k in range(7):
            for odd in (True, False, None, "1", (1,), [1], {}):
                one = [1, 1, 1, 1, 1, 1, 1]
                one[k] = odd
                self.assertIs(is_map(tuple(one)), False)

    def test_any_value(self):
        for value in odd_values():
            self.assertIs(is_map(value), False, repr(value))

    def test_led_place(self):
        for leading in MAPS:
            a, b, c, d, e, f, n = leading
            for p in small_places():
                x, y = at(p)
                told = as_place(Fraction(a * x + b * y + e, n), Fraction(c * x + d * y + f, n))
                self.assertEqual(led_place(p, leading), told)

    def test_led(self):
        for plate in zoo().values():
            for leading in MAPS:
                made = led(plate, leading)
                self.assertTrue(is_plate(made))
                self.assertEqual(made, hull([led_place(p, leading) for p in plate]))
                for p in grid():
                    if is_in(plate, p):
                        self.assertTrue(is_in(made, led_place(p, leading)))

    def test_pieces_led_to_stretches_and_points(self):
        self.assertEqual(led(zoo()["tri"], (1, 0, 0, 0, 0, 0, 1)), plate_of("0,0 2,0"))
        self.assertEqual(led(zoo()["box"], (1, 1, 1, 1, 0, 1, 2)), plate_of("0,1/2 1,3/2"))
        self.assertEqual(led(zoo()["box"], (0, 0, 0, 0, 3, -1, 2)), plate_of("3/2,-1/2"))
        self.assertEqual(led(zoo()["flat"], (0, 1, 0, 1, 0, 0, 1)), plate_of("0,0"))

    def test_pieces_turned_over_stay_counterclockwise(self):
        self.assertEqual(led(zoo()["tri"], (0, 1, 1, 0, 0, 0, 1)), zoo()["tri"])
        self.assertEqual(led(zoo()["tri"], (-1, 0, 0, 1, 0, 0, 1)), plate_of("-2,0 0,0 0,2"))


class Insides(unittest.TestCase):
    def test_what_is_told(self):
        self.assertEqual(inside(zoo()["point"]), [(zoo()["point"], 1)])
        p, q = zoo()["slant"]
        self.assertEqual(inside((p, q)), [((p, q), 1), ((p,), -1), ((q,), -1)])
        a, b, c, d = zoo()["diamond"]
        told = [((a, b, c, d), 1), ((a, b), -1), ((b, c), -1), ((d, c), -1), ((a, d), -1)]
        self.assertEqual(inside((a, b, c, d)), told + [((a,), 1), ((b,), 1), ((c,), 1), ((d,), 1)])

    def test_stretches_of_ends_are_ascending(self):
        for plate in zoo().values():
            for part, weight in inside(plate):
                self.assertTrue(is_plate(part))
                self.assertTrue(len(part) != 2 or comes_first(part[0], part[1]))

    def test_weights_add_up_to_one_inside(self):
        for name, plate in zoo().items():
            rim = [(p, q) for p, q in zip(plate, plate[1:] + plate[:1])]
            for p in grid() + list(plate):
                if len(plate) == 1:
                    told = is_in(plate, p)
                elif len(plate) == 2:
                    told = is_in(plate, p) and p not in plate
                else:
                    told = is_in(plate, p) and not any(is_in(hull(side), p) for side in rim)
                self.assertEqual(sum(weight for part, weight in inside(plate) if is_in(part, p)), told, name)

    def test_a_new_list_each_time(self):
        found = inside(zoo()["tri"])
        found.pop()
        self.assertEqual(len(inside(zoo()["tri"])), 7)
        self.assertIs(type(found), list)


class LongNumbers(unittest.TestCase):
    def test_what_the_package_returned_may_be_passed(self):
        n = 10 ** 9 - 1
        one = hull([(n, 1, n - 2), (-n, 3, n - 3), (1, n, n - 4), (5, -n, n - 6)])
        other = hull([(n - 1, n, n - 2), (-1, -n, n - 5), (n, -7, n - 10), (-n, 11, n - 12)])
        both = meet(one, other)
        again = meet(meet(both, one), mirror(mirror(other)))
        self.assertEqual(again, both)
        plane = half(n, n - 1, 1)
        self.assertEqual(meet(cut_plate(one, plane), other), cut_plate(both, plane))
        self.assertTrue(is_plate(put(both, one)))


if __name__ == "__main__":
    unittest.main()
