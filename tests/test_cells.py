"""[8.1] and [8.2]: cells."""

import unittest

from plateheaps.cells import cells, inner
from plateheaps.errors import TooMany
from plateheaps.heaps import Heap
from plateheaps.insides import inside_out
from plateheaps.places import place
from plateheaps.plates import hull, is_plate
from plane import mean, told_cells
from support import Dice, alike_pairs, at, heap_told, look_told, points_of, some_heaps, zoo


def points(many, start=0):
    """Return the heap of so many points, each on a line of its own: one cell each."""
    return Heap([(((start + k, 5, 1),), 1) for k in range(many)])


def fan():
    """Return twelve stretches, each two of which cross on a line of their own: 2,973 cells."""
    ends = [((0, -2 ** k, 1), (4096, 4096 * k - 2 ** k, 1)) for k in range(1, 13)]
    return Heap([(plate, 1) for plate in ends])


def heaps():
    dice = [Dice(20 + seed).heap(4, 4, 3) for seed in range(6)]
    return some_heaps() + [heap for pair in alike_pairs() for heap in pair] + dice


class Cells(unittest.TestCase):
    def test_as_the_document_tells_them(self):
        for heap in heaps():
            self.assertEqual(cells(heap), told_cells(heap), heap.rows())

    def test_each_plate_alone(self):
        for plate in zoo().values():
            heap = Heap([(plate, -4)])
            self.assertEqual(cells(heap), told_cells(heap), plate)
            self.assertTrue(all(look == -4 for _, _, look in cells(heap)))

    def test_plates_and_looks(self):
        for heap in heaps()[3:9]:
            told = cells(heap)
            self.assertIsInstance(told, list)
            for cell in told:
                self.assertIsInstance(cell, tuple)
                self.assertTrue(is_plate(cell[1]), cell)
                self.assertEqual(cell[2], look_told(heap, inner(cell)))
            self.assertEqual(len({plate for _, plate, _ in told}), len(told))

    def check(self, rows, told):
        """See whether the cells are told by texts such as "place 0,0 1"."""
        found = []
        for text in told:
            kind, _, rest = text.partition(" ")
            corners, _, look = rest.rpartition(" ")
            found.append((kind, tuple(points_of(corners)), int(look)))
        self.assertEqual(cells(heap_told(rows)), found)

    def test_the_empty_heap(self):
        self.assertEqual(cells(Heap([])), [])

    def test_a_point(self):
        self.check([("1/2,-1", 3)], ["place 1/2,-1 3"])

    def test_points_alone(self):
        self.check([("0,0", 1), ("0,2", 2), ("0,-1/2", 3), ("1,7", 4)], [
            "place 0,-1/2 3", "wall 0,-1/2 0,0 0", "place 0,0 1", "wall 0,0 0,2 0", "place 0,2 2", "place 1,7 4",
        ])

    def test_upright_stretches_alone(self):
        self.check([("0,0 0,2", 1), ("0,1 0,3", 2), ("1,0 1,1", -1)], [
            "place 0,0 1", "wall 0,0 0,1 1", "place 0,1 3", "wall 0,1 0,2 3", "place 0,2 3", "wall 0,2 0,3 2",
            "place 0,3 2", "place 1,0 -1", "wall 1,0 1,1 -1", "place 1,1 -1",
        ])

    def test_a_piece(self):
        self.check([("0,0 2,0 0,2", 2)], [
            "place 0,0 2", "wall 0,0 0,2 2", "place 0,2 2", "side 0,0 2,0 2", "field 0,0 2,0 0,2 2", "side 0,2 2,0 2",
            "place 2,0 2",
        ])
        self.check([("0,0 1,0 1,1 0,1", 1)], [
            "place 0,0 1", "wall 0,0 0,1 1", "place 0,1 1", "side 0,0 1,0 1", "field 0,0 1,0 1,1 0,1 1",
            "side 0,1 1,1 1", "place 1,0 1", "wall 1,0 1,1 1", "place 1,1 1",
        ])

    def test_a_line_cuts_a_piece(self):
        self.check([("-1,1 0,0 1,1 0,2", 1)], [
            "place -1,1 1", "side -1,1 0,0 1", "field -1,1 0,0 0,2 1", "side -1,1 0,2 1", "place 0,0 1", "wall 0,0 0,2 1",
            "place 0,2 1", "side 0,0 1,1 1", "field 0,0 1,1 0,2 1", "side 0,2 1,1 1", "place 1,1 1",
        ])

    def test_sides_that_lie_in_one_another(self):
        self.check([("0,0 2,0", 1), ("1,0 3,0", -1)], [
            "place 0,0 1", "side 0,0 1,0 1", "place 1,0 0", "side 1,0 2,0 0", "place 2,0 0", "side 2,0 3,0 -1",
            "place 3,0 -1",
        ])
        self.check([("0,0 2,0 0,2", 1), ("0,2 2,0", 5), ("0,2 1,1", 7)], [
            "place 0,0 1", "wall 0,0 0,2 1", "place 0,2 13", "side 0,0 1,0 1", "field 0,0 1,0 1,1 0,2 1",
            "side 0,2 1,1 13", "place 1,0 1", "wall 1,0 1,1 1", "place 1,1 13", "side 1,0 2,0 1", "field 1,0 2,0 1,1 1",
            "side 1,1 2,0 6", "place 2,0 6",
        ])

    def test_sides_that_cross(self):
        self.check([("0,0 2,2", 1), ("0,2 2,0", 2)], [
            "place 0,0 1", "wall 0,0 0,2 0", "place 0,2 2", "side 0,0 1,1 1", "field 0,0 1,1 0,2 0", "side 0,2 1,1 2",
            "place 1,1 3", "side 1,1 2,0 2", "field 1,1 2,0 2,2 0", "side 1,1 2,2 1", "place 2,0 2", "wall 2,0 2,2 0",
            "place 2,2 1",
        ])

    def test_an_upright_side_within_others(self):
        self.check([("0,0 2,0", 1), ("1,-1 1,1", 2)], [
            "place 0,0 1", "side 0,0 1,0 1", "place 1,-1 2", "wall 1,-1 1,0 2", "place 1,0 3", "wall 1,0 1,1 2",
            "place 1,1 2", "side 1,0 2,0 1", "place 2,0 1",
        ])

    def test_fields_and_walls_between_plates(self):
        told = cells(heap_told([("0,0 1,0 1,1 0,1", 1), ("0,3 1,3 1,4 0,4", 1)]))
        self.assertEqual([look for kind, _, look in told if kind == "field"], [1, 0, 1])
        self.assertEqual([look for kind, _, look in told if kind == "wall"], [1, 0, 1] * 2)

    def test_a_gap_between_lines(self):
        self.check([("0,0 1,0", 1), ("3,0 4,0", 1)], [
            "place 0,0 1", "side 0,0 1,0 1", "place 1,0 1", "place 3,0 1", "side 3,0 4,0 1", "place 4,0 1",
        ])

    def test_weights_that_cancel(self):
        told = cells(heap_told([("0,0 2,0 2,2 0,2", 1), ("0,0 2,0 2,2", -1), ("0,0 2,2 0,2", -1), ("0,0 2,2", 1)]))
        self.assertEqual([look for _, _, look in told], [0] * 11)
        self.assertEqual(len(told), 11)

    def test_inside_out(self):
        for seed in range(3):
            heap = inside_out(Dice(40 + seed).heap(3, 4, 2))
            self.assertEqual(cells(heap), told_cells(heap))

    def test_great_numbers(self):
        n = 10 ** 9 - 1
        shapes = [[(-n, -n, n - 1), (n, 1 - n, 2)], [(-n, n, 4), (n - 2, -1, 7), (n, n, 1)], [(0, -n, 1), (1, n, n)]]
        heap = Heap([(hull([place(*p) for p in shape]), k + 1) for k, shape in enumerate(shapes)])
        self.assertEqual(cells(heap), told_cells(heap))

    def test_new_lists_each_time(self):
        heap = heap_told([("0,0 2,0 0,2", 2)])
        cells(heap).clear()
        self.assertEqual(len(cells(heap)), 7)


class Order(unittest.TestCase):
    def test_line_by_line_from_below(self):
        for heap in heaps():
            rows = []
            for kind, plate, _ in cells(heap):
                xs = {at(p)[0] for p in plate}
                # A field stands between its sides, whatever the height of its mean.
                if kind != "field":
                    rows.append((min(xs), len(xs), at(mean(plate))[1]))
            self.assertEqual(rows, sorted(rows))

    def test_kinds_take_turns(self):
        for heap in heaps():
            kinds = [kind for kind, _, _ in cells(heap)]
            for one, other in zip(kinds, kinds[1:]):
                self.assertIn(other, {
                    "place": ("place", "wall", "side"), "wall": ("place",), "side": ("field", "place"), "field": ("side",),
                }[one])


class Caps(unittest.TestCase):
    def test_three_thousand_on_lines_of_their_own(self):
        self.assertEqual(len(cells(points(3000))), 3000)
        with self.assertRaises(TooMany):
            cells(points(3001))

    def test_three_thousand_of_forty_rows(self):
        self.assertEqual(len(cells(fan())), 2973)
        self.assertEqual(len(cells(fan() + points(27, 5000))), 3000)
        with self.assertRaises(TooMany):
            cells(fan() + points(28, 5000))
        with self.assertRaises(TooMany):
            cells(fan() + points(28, -900))

    def test_posts_and_walls_of_one_line(self):
        upright = Heap([(((0, k, 1),), 1) for k in range(1500)])
        self.assertEqual(len(cells(upright)), 2999)
        self.assertEqual(len(cells(upright + points(1, 7))), 3000)
        with self.assertRaises(TooMany):
            cells(upright + points(2, 7))

    def test_sides_and_fields_of_one_strip(self):
        flat = Heap([(((0, k, 1), (1, k, 1)), 1) for k in range(500)])
        self.assertEqual(len(cells(flat)), 2997)
        self.assertEqual(len(cells(flat + points(3, 7))), 3000)
        with self.assertRaises(TooMany):
            cells(flat + points(4, 7))

    def test_weights_do_not_matter(self):
        with self.assertRaises(TooMany):
            cells((fan() + points(28, 5000)) * -7)

    def test_great_heaps(self):
        with self.assertRaises(TooMany):
            cells(Heap([(tuple(zoo()["eight"]), 1)]) + Dice(3).heap(40, 10 ** 8, 10 ** 9, 30))


class Inner(unittest.TestCase):
    def test_means_of_corners(self):
        for heap in heaps():
            for cell in cells(heap):
                self.assertEqual(inner(cell), mean(cell[1]))

    def test_each_kind(self):
        for text, told in (
            ("0,0", "0,0"), ("1,1/3 1,1/2", "1,5/12"), ("0,0 1,3", "1/2,3/2"), ("0,0 2,0 0,2", "2/3,2/3"),
            ("0,0 2,0 2,3 0,1", "1,1"), ("0,0 1,0 1,1 0,5", "1/2,3/2"),
        ):
            self.assertEqual(inner(("any", tuple(points_of(text)), 1)), points_of(told)[0])


if __name__ == "__main__":
    unittest.main()
