"""[7.4]: looks along lines, and sweeps."""

import unittest
from fractions import Fraction

from plateheaps.directions import quarter
from plateheaps.folds import chords, sweep_total, sweeps
from plateheaps.halfplanes import half_from, normal
from plateheaps.halves import line_sum
from plateheaps.heaps import Heap
from plateheaps.insides import inside_out
from plateheaps.steps import judge_steps, step_at, step_sum
from support import (
    Dice, alike_pairs, along, as_fraction, as_place, halves, heap_told, look_told, places_beside, small_directions,
    some_heaps, worth,
)


def place_along(half, h):
    """Return the place of a half plane's line that has the height h along quarter(normal(half))."""
    a, b, c = half
    u = quarter(normal(half))
    square = Fraction(a * a + b * b)
    foot = (a * c / square, b * c / square)
    lift = h / Fraction(u[0] * u[0] + u[1] * u[1])
    return as_place(foot[0] + lift * u[0], foot[1] + lift * u[1])


def stops(steps):
    """Return heights at, between and beyond the entries of steps."""
    row = [worth(h) for h, _, _ in steps] or [Fraction(0)]
    return [row[0] - 1] + row + [(s + t) / 2 for s, t in zip(row, row[1:])] + [row[-1] + Fraction(1, 3)]


class Chords(unittest.TestCase):
    def test_looks_at_all_kinds_of_heights(self):
        for heap in some_heaps() + [heap for pair in alike_pairs() for heap in pair]:
            for half in halves():
                made = chords(heap, half)
                self.assertIsNone(judge_steps(made))
                for h in stops(made):
                    told = look_told(heap, place_along(half, h))
                    self.assertEqual(step_at(made, as_fraction(h)), told, (half, h))

    def test_heights_of_places_on_the_line(self):
        for heap in some_heaps():
            for half in halves()[::2]:
                made = chords(heap, half)
                u = quarter(normal(half))
                for p in places_beside(heap):
                    if along((half[0], half[1]), p) == half[2]:
                        self.assertEqual(step_at(made, as_fraction(along(u, p))), look_told(heap, p))

    def test_their_sum_is_line_sum(self):
        for heap in some_heaps():
            for half in halves():
                self.assertEqual(step_sum(chords(heap, half)), line_sum(heap, half))

    def test_the_other_side_has_opposite_heights(self):
        heap = heap_told([("0,0 2,0 0,2", 1)])
        self.assertEqual(chords(heap, (0, 1, 1)), (((-1, 1), 1, 1), ((0, 1), 1, 0)))
        self.assertEqual(chords(heap, (0, -1, -1)), (((0, 1), 1, 1), ((1, 1), 1, 0)))

    def test_along_sides_through_corners_and_beside(self):
        tri = heap_told([("0,0 2,0 0,2", 3)])
        for half, told in (
            ((0, 1, 0), (((-2, 1), 3, 3), ((0, 1), 3, 0))), ((1, 1, 2), (((-2, 1), 3, 3), ((2, 1), 3, 0))),
            ((0, 1, 2), (((0, 1), 3, 0),)), ((1, -1, 0), (((0, 1), 3, 3), ((2, 1), 3, 0))), ((0, 1, 3), ()),
            ((1, 0, 2), (((0, 1), 3, 0),)), ((2, 2, 1), (((-1, 2), 3, 3), ((1, 2), 3, 0))),
        ):
            self.assertEqual(chords(tri, half), told, half)

    def test_stretches_and_points(self):
        heap = heap_told([("-1,-1 1,1", 2), ("0,0", 5), ("2,2", 1)])
        told = (((-2, 1), 2, 2), ((0, 1), 7, 2), ((2, 1), 2, 0), ((4, 1), 1, 0))
        self.assertEqual(chords(heap, (1, -1, 0)), tuple((h, at, behind) for h, at, behind in told))
        self.assertEqual(chords(heap, (1, 0, 0)), (((0, 1), 7, 0),))

    def test_nothing(self):
        self.assertEqual(chords(Heap([]), (1, 0, 0)), ())
        self.assertEqual(chords(heap_told([("0,0 2,0", 1), ("0,0 1,0", -1), ("1,0 2,0", -1), ("1,0", 1)]), (0, 1, 0)), ())


def told_sweeps(heap, u):
    """Return the triples by line_sum of lines at and between the heights."""
    row = sorted({along(u, p) for plate, _ in heap.rows() for p in plate})
    found = []
    for k, h in enumerate(row):
        across = line_sum(heap, half_from(u, as_fraction(h)))
        middle = as_fraction((h + row[k + 1]) / 2) if k + 1 < len(row) else None
        found.append((as_fraction(h), across, -line_sum(heap, half_from(u, middle)) if middle else 0))
    return found


class Sweeps(unittest.TestCase):
    def test_lines_at_and_between_heights(self):
        for heap in some_heaps() + [heap for pair in alike_pairs() for heap in pair]:
            for u in small_directions()[::2]:
                self.assertEqual(sweeps(heap, u), told_sweeps(heap, u), u)

    def test_heights_at_which_nothing_changes(self):
        heap = heap_told([("0,0 2,0", 1), ("0,0 1,0", -1), ("1,0", 1)])
        self.assertEqual(sweeps(heap, (1, 0)), [((0, 1), 0, 0), ((1, 1), 1, -1), ((2, 1), 1, 0)])
        cancelled = heap_told([("0,0 2,0 0,2", 1), ("0,0 2,1 0,2", -1)])
        self.assertEqual(sweeps(cancelled, (1, 0)), [((0, 1), 0, 0), ((2, 1), 0, 0)])
        inner = heap_told([("0,0 4,0", 1), ("1,0 2,0", 1), ("2,0 3,0", 1), ("2,0", -1)])
        self.assertEqual([entry[1:] for entry in sweeps(inner, (1, 0))], [(1, -1), (2, -2), (2, -2), (2, -1), (1, 0)])

    def test_one_height_alone(self):
        heap = heap_told([("0,1 2,1", 3), ("5,1", -1)])
        self.assertEqual(sweeps(heap, (0, 1)), [((1, 1), 2, 0)])
        self.assertEqual(sweeps(heap, (0, -1)), [((-1, 1), 2, 0)])

    def test_the_empty_heap(self):
        self.assertEqual(sweeps(Heap([]), (1, 2)), [])
        self.assertEqual(sweep_total(Heap([]), (1, 2)), 0)

    def test_the_total(self):
        for heap in some_heaps():
            for u in small_directions():
                self.assertEqual(sweep_total(heap, u), heap.total())

    def test_a_new_list_each_time(self):
        heap = heap_told([("0,0 2,0 0,2", 1)])
        sweeps(heap, (1, 0)).append("more")
        self.assertEqual(len(sweeps(heap, (1, 0))), 2)
        self.assertIsInstance(sweeps(heap, (1, 0)), list)
        self.assertIsInstance(sweeps(heap, (1, 0))[0], tuple)

    def test_forty_rows_inside_out(self):
        heap = Dice(8).heap(40, 30, 3, 12)
        for u in ((1, 0), (2, -3)):
            turned = inside_out(heap)
            self.assertEqual([h for h, _, _ in sweeps(turned, u)], [h for h, _, _ in sweeps(heap, u)])
            self.assertEqual(sweep_total(turned, u), heap.total())


if __name__ == "__main__":
    unittest.main()
