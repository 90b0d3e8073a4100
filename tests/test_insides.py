"""[7.2] and [7.3]: heaps turned inside out."""

import unittest

from plateheaps.germs import rim
from plateheaps.heaps import Heap, look
from plateheaps.insides import inside_look, inside_out
from plateheaps.laying import mirror
from plateheaps.products import put_together
from plateheaps.shadows import bottoms, tops
from plateheaps.undoing import judge_back
from plateheaps.unlikes import are_alike
from support import (
    Dice, alike_pairs, at, heap_told, is_in, places_beside, points_of, small_directions, some_heaps, twelve_corners, zoo,
)


def strictly(plate, p):
    """Tell whether a place lies in a plate, on no side of it, at no end; a point has itself."""
    if not is_in(plate, p):
        return False
    if len(plate) == 1:
        return True
    if len(plate) == 2:
        return p not in plate
    return not any(is_in((q, r), p) for q, r in zip(plate, plate[1:] + plate[:1]))


def told_look(heap, p):
    """Return the look inside out: of pieces their insides, of stretches theirs taken away."""
    signs = {1: 1, 2: -1}
    return sum(weight * signs.get(len(plate), 1) for plate, weight in heap.rows() if strictly(plate, p))


def spots(heap):
    corners = sorted({p for plate, _ in heap.rows() for p in plate}, key=at)
    return places_beside(heap)[::4] + corners[:14]


class Rows(unittest.TestCase):
    def check(self, rows, told):
        self.assertEqual(inside_out(heap_told(rows)), heap_told(told))

    def test_a_point(self):
        self.check([("1/2,1", 3)], [("1/2,1", 3)])
        self.check([("1/2,1", -2)], [("1/2,1", -2)])

    def test_a_stretch(self):
        self.check([("0,0 4,0", 3)], [("0,0 4,0", -3), ("0,0", 3), ("4,0", 3)])
        self.check([("1,-1 1,3/2", -2)], [("1,-1 1,3/2", 2), ("1,-1", -2), ("1,3/2", -2)])

    def test_a_piece(self):
        self.check([("0,0 2,0 0,2", 5)], [
            ("0,0 2,0 0,2", 5), ("0,0 2,0", -5), ("0,2 2,0", -5), ("0,0 0,2", -5), ("0,0", 5), ("2,0", 5), ("0,2", 5),
        ])

    def test_equal_plates_are_added(self):
        self.check([("0,0 4,0", 3), ("0,0", -3)], [("0,0 4,0", -3), ("4,0", 3)])
        self.check([("0,0 4,0", 1), ("4,0 5,0", 1)], [
            ("0,0 4,0", -1), ("4,0 5,0", -1), ("0,0", 1), ("4,0", 2), ("5,0", 1),
        ])

    def test_the_empty_heap(self):
        self.assertEqual(inside_out(Heap([])), Heap([]))

    def test_the_heap_stays(self):
        heap = heap_told([("0,0 2,0 0,2", 2), ("0,0 1,1", 1)])
        rows = heap.rows()
        inside_out(heap)
        self.assertEqual(heap.rows(), rows)
        self.assertIsNot(inside_out(heap).rows(), inside_out(heap).rows())


class Looks(unittest.TestCase):
    def test_within_on_sides_at_corners_and_off(self):
        for heap in some_heaps():
            turned = inside_out(heap)
            for p in spots(heap):
                told = told_look(heap, p)
                self.assertEqual(inside_look(heap, p), told, p)
                self.assertEqual(look(turned, p), told, p)

    def test_each_plate(self):
        for name, plate in zoo().items():
            heap = Heap([(plate, 7)])
            for p in spots(heap):
                self.assertEqual(inside_look(heap, p), told_look(heap, p), (name, p))

    def test_some_by_hand(self):
        heap = heap_told([("0,0 2,0 0,2", 2), ("0,0 4,0", 3), ("1,0", 5)])
        for text, told in (("0,0", 0), ("1,0", 2), ("1/2,0", -3), ("1/2,1/2", 2), ("3,0", -3), ("4,0", 0), ("5,0", 0)):
            self.assertEqual(inside_look(heap, points_of(text)[0]), told, text)

    def test_alike_heaps_stay_alike(self):
        for one, other in alike_pairs():
            self.assertTrue(are_alike(inside_out(one), inside_out(other)))
            for p in spots(one + other):
                self.assertEqual(inside_look(one, p), inside_look(other, p))


class TwiceTurned(unittest.TestCase):
    def test_looks_as_before(self):
        for heap in some_heaps() + [Heap([(twelve_corners(), 3)])]:
            twice = inside_out(inside_out(heap))
            self.assertTrue(are_alike(twice, heap))
            for p in spots(heap)[::3]:
                self.assertEqual(look(twice, p), look(heap, p))
                self.assertEqual(inside_look(inside_out(heap), p), look(heap, p))

    def test_rows_of_one_row_come_back(self):
        for plate in zoo().values():
            self.assertEqual(inside_out(inside_out(Heap([(plate, 4)]))).weight(plate), 4)


class Laws(unittest.TestCase):
    def test_the_total_stays(self):
        for heap in some_heaps():
            self.assertEqual(inside_out(heap).total(), heap.total())

    def test_tops_and_bottoms_change_places(self):
        for heap in some_heaps():
            turned = inside_out(heap)
            for u in small_directions()[::3] + [(1, 0), (0, -1)]:
                self.assertEqual(tops(turned, u), bottoms(heap, u))
                self.assertEqual(bottoms(turned, u), tops(heap, u))

    def test_heaps_put_together(self):
        for seed in range(6):
            one, other = Dice(seed).heap(3), Dice(90 + seed).heap(2)
            both = inside_out(put_together(one, other))
            self.assertTrue(are_alike(both, put_together(inside_out(one), inside_out(other))))

    def test_the_rim_stays(self):
        for heap in some_heaps():
            turned = inside_out(heap)
            for p in spots(heap)[::2]:
                self.assertEqual(rim(turned, p), rim(heap, p))

    def test_the_mirror_inside_out_takes_a_plate_back(self):
        for plate in zoo().values():
            self.assertIsNone(judge_back(Heap([(plate, 1)]), inside_out(Heap([(mirror(plate), 1)]))))

    def test_forty_rows(self):
        heap = Dice(5).heap(40, 20, 3, 12)
        turned = inside_out(inside_out(heap))
        self.assertTrue(are_alike(turned, heap))
        for p in sorted({p for plate, _ in heap.rows() for p in plate}, key=at)[:10]:
            self.assertEqual(inside_look(inside_out(heap), p), look(heap, p))


if __name__ == "__main__":
    unittest.main()
