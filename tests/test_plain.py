"""[8.6]: heaps made of tables, heaps made plain, places at which heaps are unlike."""

import unittest

from plateheaps.cells import cells
from plateheaps.errors import BadTable, TooMany
from plateheaps.heaps import Heap, look
from plateheaps.insides import inside_out
from plateheaps.laying import inside
from plateheaps.plain import heap_of, plain, unlike_place
from plateheaps.stains import stain, where
from plateheaps.tables import judge_table, look_by, table
from plateheaps.undoing import taken_back
from plateheaps.unlikes import are_alike
from plane import mean, told_cells
from support import Dice, alike_pairs, great_values, grid, heap_told, look_told, odd_values, points_of, some_heaps, zoo
from test_cells import fan, points


def six():
    """Return heaps whose tables have at most six places."""
    found = [heap for heap in some_heaps() if len(table(heap)) <= 6]
    found += [Heap([(plate, k - 5)]) for k, plate in enumerate(zoo().values()) if len(plate) <= 6 and k != 5]
    found += [heap for pair in alike_pairs() for heap in pair]
    found += [inside_out(heap_told([("0,0 2,0 0,2", 1)])), inside_out(heap_told([("0,0 2,1", -3)]))]
    found += [heap_told([("0,0 4,0 0,4", 1), ("1,1 2,1 1,2", -1)]), heap_told([("0,0 3,0", 1), ("1,1 2,-1", 1), ("5,5", 1)])]
    found += [taken_back(heap_told([("0,0 2,0 0,2", 1)])), stain(heap_told([("0,0 3,0 3,3 0,3", 3), ("0,0 3,3", -3)]))]
    row = points_of("0,0 7,1 9,6 4,9 -2,5 3,4")
    web = Heap([((p, q) if p[0] < q[0] else (q, p), k + 1) for k, p in enumerate(row) for q in row[:k]])
    return found + [web, web * 10 ** 29] + [Dice(200 + seed).heap(2, 4, 2, 3) for seed in range(8)]


def told_otherwise(heap):
    """Return heaps that are alike, told by other rows."""
    cut = [(part, weight * sign) for plate, weight in heap.rows() for part, sign in inside(plate)]
    closed = []
    for plate, weight in heap.rows():
        closed += [(q, weight * s) for q, s in rest_of(plate)] if len(plate) > 2 else [(plate, weight)]
    return [Heap(closed), inside_out(inside_out(heap)), heap + Heap(cut) - Heap(cut), where_all(heap)]


def rest_of(plate):
    """Return rows that are alike a piece: two parts, less what they have in common."""
    if len(plate) == 3:
        middle = mean((plate[1], plate[2]))
        return [((plate[0], plate[1], middle), 1), (least_first((plate[0], middle, plate[2])), 1),
                (tuple(sorted((plate[0], middle), key=lambda p: (p[0] / p[2], p[1] / p[2]))), -1)]
    return [(plate[:3], 1), ((plate[0],) + plate[2:], 1), ((plate[0], plate[2]), -1)]


def least_first(plate):
    k = min(range(len(plate)), key=lambda k: (plate[k][0] / plate[k][2], plate[k][1] / plate[k][2]))
    return plate[k:] + plate[:k]


def where_all(heap):
    """Return the sum of n times what the heap shows where its look is n."""
    total = Heap([])
    for n in sorted({seen for _, _, seen in cells(heap)} - {0}):
        total = total + n * where(heap, n)
    return total


class HeapOf(unittest.TestCase):
    def test_its_table_is_this(self):
        for heap in six():
            told = table(heap)
            made = heap_of(told)
            self.assertIsInstance(made, Heap)
            self.assertEqual(table(made), told)
            self.assertLessEqual(len(made), 2000)
            for p in grid()[::7] + [p for p, _ in told]:
                self.assertEqual(look(made, p), look_told(heap, p))
                self.assertEqual(look(made, p), look_by(told, p))

    def test_the_empty_table(self):
        self.assertEqual(heap_of(()), Heap([]))

    def test_great_weights(self):
        n = 10 ** 30 - 1
        heap = heap_told([("0,0 2,0 0,2", n), ("0,0 2,0", -n), ("1/3,1/3", n - 1)])
        self.assertEqual(table(heap_of(table(heap))), table(heap))

    def test_tables_by_hand(self):
        for told in (
            (((1, 1, 2), (((1, 0), 3),)),),
            (((0, 0, 1), (((0, 1), 1), ((0, -1), 0))), ((1, 0, 1), (((0, 1), 0), ((0, -1), 1)))),
            (((0, 0, 1), (((0, 1), 0), ((0, -1), 1))), ((1, 0, 1), (((0, 1), 1), ((0, -1), 0)))),
            (((0, 0, 1), (((1, 0), 1), ((0, 1), 2))), ((0, 1, 1), (((1, 0), 3), ((0, 1), 2)))),
        ):
            if judge_table(told) is None:
                self.assertEqual(table(heap_of(told)), told)
            else:
                with self.assertRaises(BadTable):
                    heap_of(told)

    def test_more_places(self):
        for heap in (some_heaps()[4], Heap([(zoo()["eight"], 2)]), Dice(4).heap(3, 5, 2, 5)):
            self.assertEqual(table(heap_of(table(heap))), table(heap))

    def test_no_tables(self):
        for value in odd_values() + great_values() + [list(table(some_heaps()[3])), some_heaps()[3]]:
            if value == ():
                continue
            with self.assertRaises(BadTable) as caught:
                heap_of(value)
            self.assertEqual((caught.exception.direction, caught.exception.height), (None, None))

    def test_tables_that_do_not_stay_in_sum(self):
        for heap in six():
            told = table(heap)
            for k in range(len(told)):
                value = told[:k] + told[k + 1:]
                fault = judge_table(value)
                if fault is not None:
                    with self.assertRaises(BadTable) as caught:
                        heap_of(value)
                    self.assertEqual(("sum", caught.exception.direction, caught.exception.height), fault)

    def test_the_first_direction_and_the_least_height(self):
        value = (((0, 0, 1), (((0, 1), 1), ((-1, 0), 2))), ((0, 3, 1), (((0, 1), 1), ((-1, 0), 2))))
        with self.assertRaises(BadTable) as caught:
            heap_of(value)
        self.assertEqual((caught.exception.direction, caught.exception.height), ((0, 1), (0, 1)))

    def test_all_judged_as_judge_table_judges(self):
        told = table(heap_told([("0,0 2,0 0,2", 1)]))
        value = (told[0], (told[1][0], told[1][1][::-1])) + told[2:]
        with self.assertRaises(BadTable) as caught:
            heap_of(value)
        self.assertEqual(caught.exception.direction, None)
        value = ((told[0][0], tuple((u, w if w else False) for u, w in told[0][1])),) + told[1:]
        self.assertEqual(value, told)
        with self.assertRaises(BadTable) as caught:
            heap_of(value)
        self.assertEqual((caught.exception.direction, caught.exception.height), (None, None))


class Plain(unittest.TestCase):
    def test_alike_heaps_become_one(self):
        for one, other in alike_pairs():
            self.assertNotEqual(one, other)
            self.assertEqual(plain(one), plain(other))

    def test_told_by_other_rows(self):
        for heap in six():
            made = plain(heap)
            for other in told_otherwise(heap):
                self.assertTrue(are_alike(other, heap))
                self.assertEqual(plain(other), made)
            self.assertEqual(plain(made), made)

    def test_it_is_alike_and_small(self):
        for heap in six():
            made = plain(heap)
            self.assertTrue(are_alike(made, heap))
            self.assertLessEqual(len(made), 2000)
            self.assertEqual(made, heap_of(table(heap)))

    def test_unlike_heaps_stay_unlike(self):
        heaps = six()[:12]
        for k, one in enumerate(heaps):
            for other in heaps[:k]:
                self.assertEqual(plain(one) == plain(other), are_alike(one, other))

    def test_raises_no_too_many(self):
        heap = fan() + points(40, 5000)
        self.assertTrue(are_alike(plain(heap - heap + heap_told([("0,0", 1)])), heap_told([("0,0", 1)])))
        crowd = Heap([(((k, 0, 1), (k + 1, 0, 1)), 1) for k in range(4000)])
        crowd = crowd - Heap([(((k, 0, 1),), 1) for k in range(1, 4000)])
        self.assertEqual(plain(crowd), plain(Heap([(((0, 0, 1), (4000, 0, 1)), 1)])))


class UnlikePlace(unittest.TestCase):
    def check(self, one, other):
        p = unlike_place(one, other)
        self.assertEqual(p is None, are_alike(one, other))
        if p is not None:
            self.assertNotEqual(look_told(one, p), look_told(other, p))

    def test_all_kinds(self):
        heaps = six() + some_heaps()[6:]
        for k, one in enumerate(heaps):
            for other in (heaps[k - 1], heaps[k - 3], one, one + heaps[k - 5], inside_out(one)):
                self.check(one, other)

    def test_alike_heaps(self):
        for one, other in alike_pairs():
            self.assertIsNone(unlike_place(one, other))
        self.assertIsNone(unlike_place(Heap([]), Heap([])))

    def test_unlike_in_one_point_alone(self):
        tri = heap_told([("0,0 2,0 0,2", 5)])
        for text in ("0,0", "1,0", "1/3,1/3", "1,1", "7,7", "-1/2,0"):
            p = points_of(text)[0]
            self.assertEqual(unlike_place(tri, tri + Heap([((p,), -1)])), p)
            self.assertEqual(unlike_place(tri + Heap([((p,), -1)]), tri), p)

    def test_unlike_in_one_open_stretch_alone(self):
        tri = heap_told([("0,0 2,0 0,2", 5)])
        for text in ("0,0 2,0", "0,0 1,1", "1/2,1/2 1/2,1", "5,5 6,7", "0,2 2,0"):
            ends = tuple(points_of(text))
            more = tri + Heap(inside(ends))
            p = unlike_place(tri, more)
            self.assertNotEqual(look_told(tri, p), look_told(more, p))
            self.assertNotIn(p, ends)

    def test_unlike_in_one_field_alone(self):
        tri, small = heap_told([("0,0 2,0 0,2", 5)]), tuple(points_of("0,0 1,0 0,1"))
        p = unlike_place(tri, tri + Heap(inside(small)))
        self.assertEqual(look_told(Heap(inside(small)), p), 1)

    def test_too_many_ahead_of_all_else(self):
        one, other = fan() + points(20, 5000), points(7, 5020)
        self.assertIsNotNone(unlike_place(one, other))
        self.assertIsNotNone(unlike_place(other, one))
        self.assertIsNone(unlike_place(fan() + points(27, 5000), fan() + points(27, 5000)))
        over = fan() + points(28, 5000)
        for pair in ((one, points(8, 5020)), (points(8, 5020), one), (over, over), (over, Heap([])), (one, points(8, -99))):
            with self.assertRaises(TooMany):
                unlike_place(*pair)

    def test_plates_of_both_count_once(self):
        full = fan() + points(27, 5000)
        self.assertIsNotNone(unlike_place(full, full * 2))
        self.assertEqual(len(told_cells(points(3) + points(3))), 3)


if __name__ == "__main__":
    unittest.main()
