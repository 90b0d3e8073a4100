"""[5.1] and [5.2]: what half planes and lines meet, and looks worked back."""

import unittest

from plateheaps.directions import between
from plateheaps.halfplanes import facing, half, half_at
from plateheaps.halves import around, half_sum, line_sum, looked_back
from plateheaps.heaps import Heap, look
from plateheaps.rounds import judge_round, round_at
from support import Dice, alike_pairs, at, grid, halves, heap_told, places_beside, small_directions, some_heaps


def told_sum(heap, plane, line):
    """Return the sum of the weights of the plates that meet a half plane, or its line alone."""
    found = 0
    for plate, weight in heap.rows():
        over = [plane[0] * at(p)[0] + plane[1] * at(p)[1] - plane[2] for p in plate]
        if max(over) >= 0 and (not line or min(over) <= 0):
            found += weight
    return found


def more_halves():
    """Return half planes along sides, through corners and past the heaps of some_heaps."""
    return halves() + [half(u[0], u[1], c) for u in small_directions() for c in (-2, 0, 1)]


class HalfPlanes(unittest.TestCase):
    def test_plates_that_meet(self):
        for heap in some_heaps():
            for plane in more_halves():
                self.assertEqual(half_sum(heap, plane), told_sum(heap, plane, False), plane)
                self.assertEqual(line_sum(heap, plane), told_sum(heap, plane, True), plane)

    def test_both_sides_of_a_line(self):
        for heap in some_heaps():
            for plane in more_halves():
                both = half_sum(heap, plane) + half_sum(heap, facing(plane))
                self.assertEqual(both, line_sum(heap, plane) + heap.total())
                self.assertEqual(line_sum(heap, plane), line_sum(heap, facing(plane)))

    def test_just_these(self):
        heap = heap_told([("0,0 2,0 0,2", 5), ("1,1", 7), ("3,0 3,1", -1)])
        told = [((1, 1, 2), 11, 12), ((-1, -1, -2), 12, 12), ((1, 0, 2), 4, 5), ((1, 0, 3), -1, -1), ((1, 0, 4), 0, 0)]
        for plane, sums, lines in told:
            self.assertEqual((half_sum(heap, plane), line_sum(heap, plane)), (sums, lines), plane)

    def test_the_empty_heap(self):
        for plane in halves():
            self.assertEqual((half_sum(Heap([]), plane), line_sum(Heap([]), plane)), (0, 0))

    def test_alike_heaps(self):
        for one, other in alike_pairs():
            for plane in more_halves():
                self.assertEqual(half_sum(one, plane), half_sum(other, plane))
                self.assertEqual(line_sum(one, plane), line_sum(other, plane))


class Around(unittest.TestCase):
    def probes(self):
        told = small_directions()
        return told + [between(u, v) for u, v in zip(told, told[1:] + told[:1])]

    def test_half_planes_from_a_place_on(self):
        for heap in some_heaps():
            for p in places_beside(heap)[::5]:
                made = around(heap, p)
                self.assertIsNone(judge_round(made))
                for u in self.probes() + [entry[0] for entry in made]:
                    self.assertEqual(round_at(made, u), half_sum(heap, half_at(u, p)), (p, u))

    def test_between_its_entries_nothing_changes(self):
        heap = some_heaps()[4]
        for p in places_beside(heap):
            made = around(heap, p)
            for one, other in zip(made, made[1:] + made[:1]):
                w = between(one[0], other[0])
                for u in (w, between(one[0], w), between(w, other[0])):
                    self.assertEqual(half_sum(heap, half_at(u, p)), one[2])

    def test_just_these(self):
        self.assertEqual(around(Heap([]), (1, 2, 3)), (((1, 0), 0, 0),))
        self.assertEqual(around(heap_told([("1,0", 2)]), (0, 0, 1)), (((0, 1), 2, 0), ((0, -1), 2, 2)))
        self.assertEqual(around(heap_told([("1,0", 2)]), (1, 0, 1)), (((1, 0), 2, 2),))
        self.assertEqual(around(heap_told([("-1,1 1,1", 1)]), (0, 0, 1)), (((-1, -1), 1, 0), ((1, -1), 1, 1)))
        self.assertEqual(around(heap_told([("1,0 2,0", 1)]), (0, 0, 1)), (((0, 1), 1, 0), ((0, -1), 1, 1)))
        self.assertEqual(around(heap_told([("1,0 2,0", 1)]), (3, 0, 1)), (((0, 1), 1, 1), ((0, -1), 1, 0)))

    def test_the_look_is_worked_back(self):
        for heap in some_heaps() + [Dice(seed).heap(5, 2, 3, 6) for seed in range(5)]:
            for p in places_beside(heap) + grid():
                self.assertEqual(looked_back(heap, p), look(heap, p), p)

    def test_alike_heaps(self):
        for one, other in alike_pairs():
            for p in grid():
                self.assertEqual(around(one, p), around(other, p))


if __name__ == "__main__":
    unittest.main()
