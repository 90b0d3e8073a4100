"""[5.3], [5.4] and [5.5]: tables."""

import unittest

from plateheaps.directions import back, between, quarter, towards
from plateheaps.halfplanes import half, half_at, height
from plateheaps.halves import half_sum
from plateheaps.heaps import Heap, look
from plateheaps.places import scaled
from plateheaps.plates import hull
from plateheaps.rounds import round_of, round_sum
from plateheaps.tables import half_by, judge_table, look_by, table, total_by
from support import (
    Dice, alike_pairs, breaks_told, great_values, grid, halves, heap_told, odd_numbers, odd_values, places_beside,
    points_of, round_sorted, small_directions, some_heaps, told_table, twelve_corners,
)


def shape(corners, w=1):
    """Return the heap of one plate."""
    return heap_told([(corners, w)])


class Made(unittest.TestCase):
    def test_far_weights(self):
        for heap in some_heaps() + [Dice(seed).heap(4, 3, 2, 7) for seed in range(20, 26)]:
            self.assertEqual(table(heap), told_table(heap))

    def test_just_these(self):
        self.assertEqual(table(Heap([])), ())
        self.assertEqual(table(shape("1,1/2", -3)), (((2, 1, 2), (((1, 0), -3),)),))
        self.assertEqual(table(shape("0,0 2,0")), (
            ((0, 0, 1), (((0, 1), 1), ((0, -1), 0))), ((2, 0, 1), (((0, 1), 0), ((0, -1), 1)))))
        self.assertEqual(table(shape("0,0 0,2")), (
            ((0, 0, 1), (((1, 0), 0), ((-1, 0), 1))), ((0, 2, 1), (((1, 0), 1), ((-1, 0), 0)))))

    def test_a_place_that_changes_plates_but_not_its_weight(self):
        joined = heap_told([("0,0 2,0", 1), ("-2,0 0,0", 1)])
        self.assertEqual(table(joined)[1], ((0, 0, 1), (((1, 0), 1),)))
        corner = heap_told([("0,0 2,0 0,2", 1), ("-2,-2 0,0", 1)])
        self.assertEqual(table(corner)[1], ((0, 0, 1), (((-1, 1), 0), ((-1, 0), 1), ((0, -1), 0), ((1, -1), 1))))

    def test_what_cancels_has_no_place(self):
        heap = heap_told([("0,0 2,0", 1), ("0,0 0,2", -1)])
        self.assertEqual(table(heap), told_table(heap))
        inner = heap_told([("0,0 4,0 4,4 0,4", 1), ("1,1", 1), ("0,0 0,4", -1)])
        self.assertEqual(table(inner), told_table(inner))
        self.assertEqual(table(heap - heap), ())

    def test_breaks_at_the_beginning(self):
        for text in ("0,0 0,2", "0,0 2,0 2,2 0,2", "0,0 1,0 1,1"):
            made = table(shape(text))
            self.assertEqual(breaks_told(made)[0], (1, 0))
            self.assertEqual(made, told_table(shape(text)))

    def test_alike_heaps_have_one_table(self):
        for one, other in alike_pairs():
            self.assertNotEqual(one, other)
            self.assertEqual(table(one), table(other))

    def test_unlike_heaps_have_unlike_tables(self):
        found = [table(heap) for heap in some_heaps()]
        self.assertEqual(len(set(found)), len(found))

    def test_tables_of_sums(self):
        for one in some_heaps()[3:7]:
            for other in some_heaps()[4:9]:
                self.assertEqual(table(one + other), told_table(one + other))

    def test_forty_rows_of_twelve_corners(self):
        plate = twelve_corners()
        rows = [(hull([scaled(p, k + 1, k + 2) for p in plate]), k + 1) for k in range(40)]
        made = table(Heap(rows))
        self.assertEqual(total_by(made), sum(range(1, 41)))
        self.assertIsNone(judge_table(made))


class Read(unittest.TestCase):
    def test_total(self):
        for heap in some_heaps():
            self.assertEqual(total_by(table(heap)), heap.total())
        self.assertEqual(total_by(()), 0)

    def test_half_planes(self):
        for heap in some_heaps():
            made = table(heap)
            planes = halves() + [half(u[0], u[1], c) for u in small_directions() for c in (-2, 0, 1)]
            planes += [half_at(u, p) for u in breaks_told(made) for p, _ in made][:200]
            for plane in planes:
                self.assertEqual(half_by(made, plane), half_sum(heap, plane), plane)

    def test_looks(self):
        for heap in some_heaps():
            made = table(heap)
            for p in places_beside(heap)[::3] + grid()[::2]:
                self.assertEqual(look_by(made, p), look(heap, p), p)
        self.assertEqual(look_by((), (1, 2, 3)), 0)

    def test_just_these(self):
        made = table(heap_told([("0,0 2,0", 3), ("0,1", -2)]))
        self.assertEqual([look_by(made, p) for p in points_of("1,0 0,1 0,0 1,1")], [3, -2, 3, 0])

    def test_the_look_as_the_document_tells_it(self):
        for heap in some_heaps()[3:9]:
            made = table(heap)
            for p in places_beside(heap)[::7]:
                self.assertEqual(look_by(made, p), total_by(made) - round_sum(self.round_around(made, p)))

    def round_around(self, made, p):
        """Return the round of half_by around a place, worked out at each direction at which it may change."""
        ends = [quarter(towards(p, q)) for q, _ in made if q != p]
        ends = round_sorted(ends + [back(u) for u in ends] + breaks_told(made)) or [(1, 0)]
        rows = []
        for u, v in zip(ends, ends[1:] + ends[:1]):
            w = between(u, v)
            inside = half_by(made, half_at(w, p))
            # The closed arc from u to v less both its ends.
            rows += [(u, v, inside), (u, u, -inside), (v, v, -inside), (u, u, half_by(made, half_at(u, p)))]
        return round_of(rows)

    def test_thirty_places(self):
        heap = Heap([(tuple(points_of(f"{k},0 {k + 3},{k % 4 + 1}")), 1 + k % 3) for k in range(0, 60, 4)])
        made = table(heap)
        self.assertEqual(len(made), 30)
        for p in points_of("0,0 3,1 3/2,1/2 9,9 17,1 19,1 16,0"):
            self.assertEqual(look_by(made, p), look(heap, p))


def changed(value, *path):
    """Return a tuple in which the part to which numbers lead is what stands last in path."""
    if len(path) == 1:
        return path[0]
    return value[:path[0]] + (changed(value[path[0]], *path[1:]),) + value[path[0] + 1:]


class Judged(unittest.TestCase):
    def test_tables_of_heaps(self):
        for heap in some_heaps() + [one for pair in alike_pairs() for one in pair]:
            self.assertIsNone(judge_table(table(heap)))

    def test_no_table(self):
        good = table(shape("0,0 2,0 0,2"))
        self.assertIsNone(judge_table(good))
        for value in odd_values():
            if value != () or isinstance(value, (list, dict)):
                self.assertEqual(judge_table(value), ("form",), repr(value))
            for path in ((0,), (1, 0), (1, 1), (1, 1, 0), (1, 1, 0, 0)):
                if (path, value) != ((1, 1, 0), ((1, 2), 1)):
                    self.assertEqual(judge_table(changed(good, *path, value)), ("form",), (path, value))
        for wrong in odd_numbers():
            self.assertEqual(judge_table(changed(good, 0, 1, 0, 1, wrong)), ("form",), repr(wrong))
            self.assertEqual(judge_table((((0, 0, 1), (((1, 0), wrong),)),)), ("form",), repr(wrong))

    def test_great_values(self):
        good = table(shape("0,0 2,0 0,2"))
        for value in great_values():
            self.assertEqual(judge_table(value), ("form",), repr(value)[:50])
            self.assertEqual(judge_table(good + (value,)), ("form",))
            self.assertEqual(judge_table(changed(good, 1, 1, value)), ("form",))

    def test_lists_in_it(self):
        good = table(shape("0,0 2,0 0,2"))
        self.assertEqual(judge_table(list(good)), ("form",))
        for path in ((0,), (0, 0), (0, 1), (0, 1, 0), (0, 1, 0, 0)):
            part = good
            for k in path:
                part = part[k]
            self.assertEqual(judge_table(changed(good, *path, list(part))), ("form",), path)

    def test_true_for_one(self):
        self.assertEqual(judge_table((((0, 0, 1), (((1, 0), True),)),)), ("form",))
        self.assertEqual(judge_table((((0, 0, True), (((1, 0), 1),)),)), ("form",))
        self.assertEqual(judge_table((((0, 0, 1), (((True, 0), 1),)),)), ("form",))
        self.assertEqual(judge_table((((0, 0, 1), (((1, False), 1),)),)), ("form",))
        self.assertEqual(judge_table((((0, 0, 1), (((0, 1), False), ((0, -1), 1))),)), ("form",))

    def test_places_out_of_order(self):
        rows = table(heap_told([("0,0", 1), ("0,1", 1), ("1/2,0", 2), ("1/3,5", 1)]))
        self.assertEqual([p for p, _ in rows], points_of("0,0 0,1 1/3,5 1/2,0"))
        self.assertIsNone(judge_table(rows))
        for value in (rows[::-1], rows[1:] + rows[:1], rows[:1] + rows, (rows[0], rows[1], rows[3], rows[2])):
            self.assertEqual(judge_table(value), ("form",))

    def test_one_pair(self):
        for arcs in ((((1, 0), 0),), (((0, 1), 1),), (((-1, 0), 1),), (), (((1, 0), 1, 1),), (((1, 0),),)):
            self.assertEqual(judge_table((((0, 0, 1), arcs),)), ("form",), arcs)
        self.assertIsNone(judge_table((((0, 0, 1), (((1, 0), -5),)),)))

    def test_neighbours(self):
        far = ((9, 9, 1), (((1, 0), 1),))
        for weights in ((1, 1), (1, 2, 1), (1, 2, 2), (1, 1, 2), (0, 0, 1)):
            arcs = tuple(zip(((1, 0), (0, 1), (-1, 0)), weights))
            self.assertEqual(judge_table((((0, 0, 1), arcs), far)), ("form",), weights)

    def test_directions_out_of_order(self):
        told = ((0, 1), (-1, 0), (0, -1))
        for order in ((0, 2, 1), (1, 0, 2), (2, 1, 0), (0, 0, 1), (0, 1, 1)):
            arcs = tuple((told[k], n) for n, k in enumerate(order))
            self.assertEqual(judge_table((((0, 0, 1), arcs),)), ("form",), order)
        for u in ((0, 2), (0, 0), (True, 1)):
            self.assertEqual(judge_table((((0, 0, 1), ((u, 1), ((-1, 0), 0))),)), ("form",))

    def test_form_ahead_of_sum(self):
        open_one = (((0, 0, 1), (((1, 0), 1), ((-1, 0), 2))),)
        self.assertEqual(judge_table(open_one), ("sum", (1, 0), (0, 1)))
        self.assertEqual(judge_table(open_one + open_one), ("form",))

    def test_sums_on_lines(self):
        made = table(shape("0,0 2,0 2,1 0,1"))
        for k, told in enumerate((((-1, 0), (0, 1)), ((0, 1), (1, 1)), ((1, 0), (2, 1)), ((1, 0), (2, 1)))):
            self.assertEqual(judge_table(made[:k] + made[k + 1:]), ("sum",) + told, made[k][0])

    def test_the_least_height_at_the_first_break(self):
        arcs = (((0, 1), 1), ((0, -1), 0))
        value = tuple((p, arcs) for p in points_of("-2,3 1,-1/2 5,7"))
        self.assertEqual(judge_table(value), ("sum", (0, 1), (-1, 2)))
        value = tuple((p, arcs) for p in points_of("-2,3 1,1/2 5,1/3"))
        self.assertEqual(judge_table(value), ("sum", (0, 1), (1, 3)))

    def test_what_comes_to_nothing_on_a_line(self):
        left, right = (((0, 1), 1), ((0, -1), 0)), (((0, 1), 0), ((0, -1), 1))
        self.assertIsNone(judge_table((((0, 0, 1), left), ((1, 0, 1), right))))
        self.assertEqual(judge_table((((0, 0, 1), left), ((1, 1, 1), right))), ("sum", (0, 1), (0, 1)))
        self.assertEqual(judge_table((((0, 1, 1), left), ((1, 0, 1), right))), ("sum", (0, 1), (0, 1)))
        more = (((0, 0, 1), left), ((1, 0, 1), right), ((2, 5, 1), (((1, 1), 4), ((-1, 1), 3))))
        self.assertEqual(judge_table(more), ("sum", (1, 1), (7, 1)))

    def test_the_heights_as_told(self):
        for heap in some_heaps()[3:]:
            made = table(heap)
            if len(made) < 2:
                continue
            for k in range(len(made)):
                left = made[:k] + made[k + 1:]
                fault = judge_table(left)
                arcs = made[k][1]
                if len(arcs) == 1:
                    self.assertIsNone(fault)
                else:
                    self.assertEqual(fault, ("sum", arcs[0][0], height(arcs[0][0], made[k][0])))

    def test_many_parts(self):
        arcs = (((0, 1), 1), ((0, -1), 0))
        value = tuple(((k, 7, 1), arcs) for k in range(200))
        self.assertEqual(judge_table(value), ("sum", (0, 1), (7, 1)))


if __name__ == "__main__":
    unittest.main()
