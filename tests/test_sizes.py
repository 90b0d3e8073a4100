"""[9.1] and [9.2]: areas, middles, widths."""

import unittest
from fractions import Fraction
from math import gcd

from plateheaps.cells import cells
from plateheaps.errors import TooMany
from plateheaps.heaps import Heap, scaled_heap
from plateheaps.insides import inside_out
from plateheaps.laying import led
from plateheaps.plates import hull
from plateheaps.sizes import area, areas_by_look, middle, moments, thinnest, width
from support import (
    Dice, alike_pairs, along, as_fraction, as_place, at, heap_told, points_of, round_sorted, small_directions, some_heaps,
    twelve_corners, worth, zoo,
)
from test_cells import fan, points


def triangles(plate):
    corners = [at(p) for p in plate]
    return [(corners[0], corners[k], corners[k + 1]) for k in range(1, len(corners) - 1)]


def triangle_area(a, b, c):
    return abs((b[0] - a[0]) * (c[1] - a[1]) - (b[1] - a[1]) * (c[0] - a[0])) / Fraction(2)


def told_moments(heap):
    """Return the moments by triangles: of each its area, times the mean of its corners."""
    sums = [Fraction(0)] * 3
    for plate, weight in heap.rows():
        for a, b, c in triangles(plate):
            part = weight * triangle_area(a, b, c)
            sums = [sums[0] + part, sums[1] + part * (a[0] + b[0] + c[0]) / 3, sums[2] + part * (a[1] + b[1] + c[1]) / 3]
    return tuple(as_fraction(s) for s in sums)


class Areas(unittest.TestCase):
    def test_by_triangles(self):
        for heap in some_heaps() + [Dice(300 + seed).heap(5, 10 ** 6, 999) for seed in range(5)]:
            told = told_moments(heap)
            self.assertEqual(area(heap), told[0])
            self.assertEqual(moments(heap), told)
            middle_told = None
            if told[0] != (0, 1):
                middle_told = as_place(worth(told[1]) / worth(told[0]), worth(told[2]) / worth(told[0]))
            self.assertEqual(middle(heap), middle_told)

    def test_by_hand(self):
        box = heap_told([("0,0 3,0 3,2 0,2", 1)])
        self.assertEqual(moments(box), ((6, 1), (9, 1), (6, 1)))
        self.assertEqual(moments(-2 * box), ((-12, 1), (-18, 1), (-12, 1)))
        self.assertEqual([middle(box), middle(-2 * box)], [(3, 2, 2)] * 2)
        self.assertEqual(moments(heap_told([("1/2,0 1,0 1/2,1/3", 6)])), ((1, 2), (1, 3), (1, 18)))

    def test_stretches_and_points_count_0(self):
        flat = heap_told([("0,0 5,7", 9), ("1,1", -4), ("2,0 2,9", 1)])
        self.assertEqual(moments(flat), ((0, 1),) * 3)
        self.assertIsNone(middle(flat))
        box = heap_told([("0,0 1,0 1,1 0,1", 2)])
        self.assertEqual([moments(box + flat), middle(box + flat)], [moments(box), middle(box)])

    def test_no_middle(self):
        self.assertIsNone(middle(Heap([])))
        self.assertIsNone(middle(heap_told([("0,0 1,0 1,1 0,1", 1), ("5,5 6,5 6,6 5,6", -1)])))
        self.assertEqual(moments(heap_told([("0,0 1,0 1,1 0,1", 1), ("5,5 6,5 6,6 5,6", -1)])), ((0, 1), (-5, 1), (-5, 1)))
        self.assertEqual(moments(Heap([])), ((0, 1),) * 3)
        self.assertEqual(area(Heap([])), (0, 1))

    def test_a_middle_beyond_all_plates(self):
        heap = heap_told([("0,0 2,0 2,2 0,2", 1), ("0,0 1,0 1,1 0,1", -3)])
        self.assertEqual(middle(heap), (5, 5, 2))

    def test_alike_heaps(self):
        for one, other in alike_pairs() + [(heap, inside_out(inside_out(heap))) for heap in some_heaps()]:
            self.assertEqual(moments(one), moments(other))
            self.assertEqual([area(one), middle(one)], [area(other), middle(other)])

    def test_scaled(self):
        for heap in some_heaps():
            self.assertEqual(worth(area(scaled_heap(heap, 3, 2))), worth(area(heap)) * Fraction(9, 4))


class AreasByLook(unittest.TestCase):
    def test_by_cells(self):
        for heap in some_heaps():
            sums = {}
            for _, plate, look in cells(heap):
                sums[look] = sums.get(look, 0) + sum(triangle_area(*corners) for corners in triangles(plate))
            told = [(n, as_fraction(sums[n])) for n in sorted(sums) if n != 0 and sums[n] > 0]
            self.assertEqual(areas_by_look(heap), told)

    def test_added_up_they_are_the_area(self):
        for heap in some_heaps() + [Dice(310 + seed).heap(4, 9, 3) for seed in range(5)]:
            self.assertEqual(sum(n * worth(part) for n, part in areas_by_look(heap)), worth(area(heap)))

    def test_by_hand(self):
        heap = heap_told([("0,0 4,0 4,4 0,4", 2), ("1,1 2,1 2,2 1,2", -5), ("3,3 5,3 5,5 3,5", -2), ("0,0", 9), ("0,0 1,0", 4)])
        self.assertEqual(areas_by_look(heap), [(-3, (1, 1)), (-2, (3, 1)), (2, (14, 1))])

    def test_looks_whose_area_is_0_are_left_out(self):
        self.assertEqual(areas_by_look(heap_told([("0,0 4,0", 1), ("1,1", 2)])), [])
        self.assertEqual(areas_by_look(heap_told([("0,0 2,0 0,2", 1), ("0,0 2,0 0,2", -1), ("7,7", 1)])), [])
        self.assertEqual(areas_by_look(Heap([])), [])

    def test_alike_heaps(self):
        for one, other in alike_pairs():
            self.assertEqual(areas_by_look(one), areas_by_look(other))

    def test_too_many_as_cells(self):
        self.assertEqual(areas_by_look(fan() + points(27, 5000)), [])
        with self.assertRaises(TooMany):
            areas_by_look(fan() + points(28, 5000))

    def test_many_great_fields(self):
        heap = Dice(8).heap(9, 10 ** 9 - 1, 10 ** 9 - 1, 3)
        self.assertEqual(sum(n * worth(part) for n, part in areas_by_look(heap)), worth(area(heap)))

    def test_a_new_list_each_time(self):
        heap = heap_told([("0,0 2,0 0,2", 1)])
        areas_by_look(heap).clear()
        self.assertEqual(areas_by_look(heap), [(1, (2, 1))])


def told_width(plate, u):
    heights = [along(u, p) for p in plate]
    return max(heights) - min(heights)


def told_thinnest(plate):
    """Return the least width and its directions, by all directions that may have it."""
    corners = [at(p) for p in plate]
    whole = sum(triangle_area(*part) for part in triangles(plate))
    far = max((a[0] - b[0]) ** 2 + (a[1] - b[1]) ** 2 for a in corners for b in corners)
    least = min(told_width(plate, u) for u in small_directions())
    limit = 1
    while limit * limit * whole * whole <= least * least * far:
        limit += 1
    tried = {}
    for a in range(-limit, limit + 1):
        for b in range(-limit, limit + 1):
            if gcd(a, b) == 1:
                tried[a, b] = told_width(plate, (a, b))
    best = min(tried.values())
    return (as_fraction(best), round_sorted([u for u in tried if tried[u] == best]))


class Widths(unittest.TestCase):
    def test_along_directions(self):
        for plate in list(zoo().values()) + [twelve_corners()]:
            for u in small_directions():
                self.assertEqual(width(plate, u), as_fraction(told_width(plate, u)))

    def test_along_directions_of_sides_and_across(self):
        box = zoo()["box"]
        self.assertEqual([width(box, u) for u in ((1, 0), (0, -1), (1, 1), (2, -3))], [(1, 1), (1, 1), (2, 1), (5, 1)])
        self.assertEqual([width(zoo()["flat"], u) for u in ((1, 0), (0, 1), (3, 1))], [(2, 1), (0, 1), (6, 1)])
        self.assertEqual(width(zoo()["point"], (7, -3)), (0, 1))


class Thinnest(unittest.TestCase):
    def test_by_all_directions(self):
        pieces = [plate for plate in zoo().values() if len(plate) > 2] + [twelve_corners()]
        pieces += [plate for seed in range(60) for plate in [Dice(400 + seed).plate(5, 3, 7)] if len(plate) > 2]
        for plate in pieces:
            self.assertEqual(thinnest(plate), told_thinnest(plate), plate)

    def test_points_and_stretches(self):
        for name in ("origin", "point", "lone"):
            self.assertEqual(thinnest(zoo()[name]), ((0, 1), []))
        self.assertEqual(thinnest(zoo()["flat"]), ((0, 1), [(0, 1), (0, -1)]))
        self.assertEqual(thinnest(zoo()["upright"]), ((0, 1), [(1, 0), (-1, 0)]))
        self.assertEqual(thinnest(zoo()["slant"]), ((0, 1), [(-2, 3), (2, -3)]))

    def test_several_directions(self):
        axes = [(1, 0), (0, 1), (-1, 0), (0, -1)]
        self.assertEqual(thinnest(zoo()["box"]), ((1, 1), axes))
        told = [(1, 0), (1, 1), (0, 1), (-1, 1), (-1, 0), (-1, -1), (0, -1), (1, -1)]
        self.assertEqual(thinnest(zoo()["diamond"]), ((2, 1), told))
        tri = tuple(points_of("0,0 1,0 0,1"))
        self.assertEqual(thinnest(tri), ((1, 1), [(1, 0), (1, 1), (0, 1), (-1, 0), (-1, -1), (0, -1)]))

    def test_slanted_pieces_of_small_area(self):
        for text in ("-10,-10 10,9 10,10", "-10,-9 9,10 10,10", "-10,-10 3,7/4 10,8", "-10,-10 10,-7 1/4,-33/4"):
            plate = hull(points_of(text))
            self.assertEqual(thinnest(plate), told_thinnest(plate), text)
        self.assertEqual(thinnest(hull(points_of("-10,-10 10,9 10,10"))), ((1, 1), [(-1, 1), (1, -1)]))

    def test_led_by_whole_maps(self):
        for name in ("tri", "five", "eight", "diamond", "wide"):
            plate = zoo()[name]
            least, found = thinnest(plate)
            a, b, c, d = 34, 55, 21, 34
            there, others = thinnest(led(plate, (a, b, c, d, 3, -8, 1)))
            self.assertEqual(there, least)
            told = round_sorted([(d * u[0] - c * u[1], a * u[1] - b * u[0]) for u in found])
            self.assertEqual(others, told)

    def test_great_numbers(self):
        n = 10 ** 9 - 1
        least, found = thinnest(hull([(-n, -n, 1), (n, n - 1, 1), (n, n, 1)]))
        self.assertEqual([least, found], [(1, 1), [(-1, 1), (1, -1)]])

    def test_a_new_list_each_time(self):
        for plate in (zoo()["box"], zoo()["flat"], zoo()["point"]):
            thinnest(plate)[1].append("more")
            self.assertNotIn("more", thinnest(plate)[1])


if __name__ == "__main__":
    unittest.main()
