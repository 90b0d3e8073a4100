"""[4.8]: shadows."""

import unittest

from plateheaps.halfplanes import half_from
from plateheaps.heaps import Heap
from plateheaps.overlays import cut_line
from plateheaps.shadows import bottoms, shadow, tops
from plateheaps.steps import bottoms_of, judge_steps, step_at, step_sum, steps_of, tops_of
from support import along, alike_pairs, as_fraction, heap_told, small_directions, some_heaps


def told_shadow(heap, u):
    """Return the shadow by the heights of the corners."""
    rows = []
    for plate, weight in heap.rows():
        heights = [along(u, p) for p in plate]
        rows.append((as_fraction(min(heights)), as_fraction(max(heights)), weight))
    return steps_of(rows)


class Shadows(unittest.TestCase):
    def test_stretches_of_heights(self):
        for heap in some_heaps():
            for u in small_directions():
                made = shadow(heap, u)
                self.assertIsNone(judge_steps(made))
                self.assertEqual(made, told_shadow(heap, u))
                self.assertEqual(step_sum(made), heap.total())

    def test_what_lines_across_meet(self):
        heap = some_heaps()[4]
        for u in small_directions():
            made = shadow(heap, u)
            for k in range(-12, 13):
                line = cut_line(heap, half_from(u, as_fraction(f"{k}/4")))
                self.assertEqual(step_at(made, as_fraction(f"{k}/4")), line.total())

    def test_tops_and_bottoms(self):
        for heap in some_heaps():
            for u in small_directions():
                self.assertEqual(tops(heap, u), tops_of(told_shadow(heap, u)))
                self.assertEqual(bottoms(heap, u), bottoms_of(told_shadow(heap, u)))

    def test_just_these(self):
        heap = heap_told([("0,0 2,0 0,2", 1), ("1,1", -1), ("0,0 1/2,1/3", 2)])
        self.assertEqual(shadow(heap, (0, 1)), (((0, 1), 3, 3), ((1, 3), 3, 1), ((1, 1), 0, 1), ((2, 1), 1, 0)))
        self.assertEqual(tops(heap, (1, 1)), [((5, 6), 2)])
        self.assertEqual(bottoms(heap, (1, 0)), [((0, 1), 3), ((1, 1), -1)])

    def test_the_empty_heap(self):
        self.assertEqual((shadow(Heap([]), (1, 2)), tops(Heap([]), (1, 2)), bottoms(Heap([]), (1, 2))), ((), [], []))

    def test_alike_heaps_have_one_shadow(self):
        for one, other in alike_pairs():
            for u in small_directions():
                self.assertEqual(shadow(one, u), shadow(other, u))

    def test_new_lists(self):
        heap = some_heaps()[3]
        for told in (tops, bottoms):
            self.assertIs(type(told(heap, (1, 0))), list)
            told(heap, (1, 0)).clear()
            self.assertEqual(len(told(heap, (1, 0))), 1)


if __name__ == "__main__":
    unittest.main()
