"""[6.1] and [6.2]: heaps put together, powers, arcs of tables, tables put together."""

import unittest

from plateheaps.directions import between, in_arc
from plateheaps.errors import TooMany
from plateheaps.heaps import Heap, look
from plateheaps.places import moved, scaled
from plateheaps.plates import hull
from plateheaps.products import arcs_of, power, put_together, together_table
from plateheaps.shadows import shadow
from plateheaps.steps import put_steps
from plateheaps.tables import judge_table, table
from support import (
    Dice, alike_pairs, breaks_told, grid, heap_told, points_of, small_directions, some_heaps, told_arcs, told_table,
    twelve_corners, zoo,
)

ORIGIN = (0, 0, 1)


def row_of_points(many, first=0):
    """Return the heap of many points, no two pairs of which come to one sum with those of another first."""
    return Heap([(((first + k, 7 * first + k * k, 1),), 1) for k in range(many)])


def told_together(one, other):
    """Return the heap of the hulls of all sums of corners."""
    rows = []
    for plate, weight in one.rows():
        for mate, times in other.rows():
            rows.append((hull([moved(p, q) for p in plate for q in mate]), weight * times))
    return Heap(rows)


class PutTogether(unittest.TestCase):
    def test_each_plate_to_each(self):
        for one in some_heaps():
            for other in some_heaps()[:6]:
                made = put_together(one, other)
                self.assertEqual(made, told_together(one, other))
                self.assertEqual(put_together(other, one), made)
                self.assertEqual(made.total(), one.total() * other.total())

    def test_equal_plates_are_added_and_may_cancel(self):
        one, other = heap_told([("0,0", 1), ("1,0", 1)]), heap_told([("0,0", 1), ("1,0", -1)])
        self.assertEqual(put_together(one, one), heap_told([("0,0", 1), ("1,0", 2), ("2,0", 1)]))
        self.assertEqual(put_together(one, other), heap_told([("0,0", 1), ("2,0", -1)]))

    def test_nothing_and_a_point(self):
        for heap in some_heaps():
            self.assertEqual(put_together(heap, Heap([])), Heap([]))
            self.assertEqual(put_together(Heap([]), heap), Heap([]))
            self.assertEqual(put_together(heap, Heap([((ORIGIN,), 1)])), heap)
            self.assertEqual(put_together(Heap([((ORIGIN,), -2)]), heap), -2 * heap)

    def test_alike_heaps_come_to_alike_ones(self):
        for one, other in alike_pairs():
            for heap in some_heaps()[3:6]:
                first, second = put_together(one, heap), put_together(other, heap)
                self.assertEqual(table(first), table(second))
                self.assertEqual([look(first, p) for p in grid()[::9]], [look(second, p) for p in grid()[::9]])

    def test_shadows_are_put_together_as_steps(self):
        for seed in range(5):
            one, other = Dice(seed).heap(3), Dice(seed + 9).heap(3)
            both = put_together(one, other)
            for u in small_directions():
                self.assertEqual(shadow(both, u), put_steps(shadow(one, u), shadow(other, u)))

    def test_four_hundred_pairs(self):
        self.assertEqual(put_together(row_of_points(20), row_of_points(20, 50)).total(), 400)
        self.assertEqual(len(put_together(row_of_points(400), row_of_points(1))), 400)
        self.assertEqual(put_together(row_of_points(500), Heap([])), Heap([]))

    def test_too_many(self):
        for one, other in ((20, 21), (21, 20), (401, 1), (1, 401), (134, 3)):
            with self.assertRaises(TooMany):
                put_together(row_of_points(one), row_of_points(other))

    def test_pairs_that_come_to_one_plate_count(self):
        line = Heap([(((k, 0, 1),), 1) for k in range(21)])
        with self.assertRaises(TooMany):
            put_together(line, line)
        self.assertEqual(len(put_together(line, line - Heap([(((0, 0, 1),), 1), (((1, 0, 1),), 1)]))), 39)

    def test_plates_of_twelve_corners(self):
        heap = Heap([(twelve_corners(), 1), (hull([scaled(p, 1, 2) for p in twelve_corners()]), -1)])
        self.assertEqual(put_together(heap, heap), told_together(heap, heap))


class Powers(unittest.TestCase):
    def test_one_behind_the_other(self):
        for heap in some_heaps():
            if len(heap) > 5:
                continue
            made = Heap([((ORIGIN,), 1)])
            for n in range(4):
                self.assertEqual(power(heap, n), made)
                if len(made) * len(heap) <= 400:
                    made = put_together(made, heap)
                else:
                    break

    def test_nought(self):
        for heap in some_heaps() + [row_of_points(401)]:
            self.assertEqual(power(heap, 0).rows(), [((ORIGIN,), 1)])

    def test_the_empty_heap(self):
        self.assertEqual([len(power(Heap([]), n)) for n in range(4)], [1, 0, 0, 0])

    def test_twelve_times(self):
        flat = Heap([(zoo()["flat"], 1)])
        self.assertEqual(power(flat, 12).rows(), [(((0, 0, 1), (24, 0, 1)), 1)])
        two = power(heap_told([("0,0", 1), ("1,0", 1)]), 12)
        self.assertEqual([weight for _, weight in two.rows()][:7], [1, 12, 66, 220, 495, 792, 924])
        self.assertEqual(power(Heap([(twelve_corners(), 2), (zoo()["lone"], -1)]), 12).total(), 1)

    def test_too_many(self):
        with self.assertRaises(TooMany):
            power(row_of_points(401), 1)
        with self.assertRaises(TooMany):
            power(row_of_points(21), 2)
        self.assertEqual(power(row_of_points(20), 2).total(), 400)
        with self.assertRaises(TooMany):
            power(row_of_points(20), 3)


class Arcs(unittest.TestCase):
    def test_farthest_places(self):
        for heap in some_heaps() + [Dice(seed).heap(5, 3, 2, 6) for seed in range(30, 36)]:
            told = told_table(heap)
            self.assertEqual(arcs_of(told), told_arcs(told))

    def test_just_these(self):
        self.assertEqual(arcs_of(()), [((1, 0), [])])
        self.assertEqual(arcs_of((((1, 2, 1), (((1, 0), -3),)),)), [((1, 0), [((1, 2, 1), -3)])])
        self.assertEqual(arcs_of(table(heap_told([("0,0", 1), ("1,0", 5)]))), [((1, 0), [((0, 0, 1), 1), ((1, 0, 1), 5)])])
        self.assertEqual(arcs_of(table(heap_told([("0,0 0,1", 1), ("5,5", 2)]))), [
            ((0, 1), [((0, 1, 1), 1), ((5, 5, 1), 2)]), ((0, -1), [((0, 0, 1), 1), ((5, 5, 1), 2)])])

    def test_the_arc_over_the_beginning_comes_last(self):
        found = arcs_of(table(heap_told([("0,0 2,0 0,2", 1)])))
        self.assertEqual(found, [
            ((0, 1), [((0, 2, 1), 1)]), ((-1, -1), [((0, 0, 1), 1)]), ((1, 0), [((2, 0, 1), 1)])])
        found = arcs_of(table(heap_told([("0,0 2,0 2,2 0,2", 1)])))
        self.assertEqual([u for u, _ in found], [(1, 1), (-1, 1), (-1, -1), (1, -1)])

    def test_arcs_on_which_nothing_is(self):
        left = (((0, 1), 1), ((-1, 0), 0), ((0, -1), -1))
        found = arcs_of((((0, 0, 1), left),))
        self.assertEqual(found, [((-1, 1), [((0, 0, 1), 1)]), ((-1, -1), []), ((1, 0), [((0, 0, 1), -1)])])

    def test_places_ascend(self):
        for heap in some_heaps():
            for _, far in arcs_of(table(heap)):
                places = [p for p, _ in far]
                self.assertEqual(places, [p for p, _ in table(heap) if p in places])
                self.assertTrue(all(weight != 0 for _, weight in far))

    def test_new_lists(self):
        told = table(zoo_heap())
        found = arcs_of(told)
        self.assertIs(type(found), list)
        for _, far in found:
            self.assertIs(type(far), list)
            far.clear()
        self.assertTrue(all(len(far) == 1 for _, far in arcs_of(told)))
        self.assertEqual(len({id(far) for _, far in found}), len(found))
        empty = arcs_of(())
        empty[0][1].append(1)
        self.assertEqual(arcs_of(()), [((1, 0), [])])


def zoo_heap():
    return Heap([(zoo()["five"], 1)])


class Together(unittest.TestCase):
    def test_the_table_of_the_heap_put_together(self):
        for one in some_heaps():
            for other in some_heaps():
                if len(one) * len(other) <= 100:
                    made = together_table(table(one), table(other))
                    self.assertEqual(made, table(put_together(one, other)))
                    self.assertIsNone(judge_table(made))
                if len(one) * len(other) <= 12:
                    self.assertEqual(made, told_table(told_together(one, other)))

    def test_breaks_that_cancel(self):
        flat, hollow = heap_told([("0,0 1,0", 1)]), heap_told([("-1,0 0,0", -1), ("-1,0", 1), ("0,0", 1)])
        self.assertEqual(together_table(table(flat), table(hollow)), ((ORIGIN, (((1, 0), 1),)),))

    def test_weights_of_one_place_are_added(self):
        one, other = heap_told([("0,0", 1), ("1,0", 1)]), heap_told([("0,0", 1), ("1,0", -1)])
        self.assertEqual(together_table(table(one), table(other)), table(heap_told([("0,0", 1), ("2,0", -1)])))

    def test_nothing(self):
        for heap in some_heaps():
            self.assertEqual(together_table(table(heap), ()), ())
            self.assertEqual(together_table((), table(heap)), ())
            self.assertEqual(together_table(table(heap), ((ORIGIN, (((1, 0), 1),)),)), table(heap))

    def test_arc_by_arc(self):
        one, other = table(some_heaps()[8]), table(some_heaps()[9])
        made = dict(arcs_of(together_table(one, other)))
        for u in [between(v, v) for v in small_directions()] + list(made):
            if any(u in breaks_told(told) for told in (one, other)):
                continue
            sums = {}
            for p, weight in self.far(one, u):
                for q, times in self.far(other, u):
                    sums[moved(p, q)] = sums.get(moved(p, q), 0) + weight * times
            self.assertEqual(dict(self.far(together_table(one, other), u)), {p: sums[p] for p in sums if sums[p]})

    def far(self, told, u):
        """Return the farthest places at a direction that is no break."""
        breaks = breaks_told(told)
        for k, (_, far) in enumerate(arcs_of(told)):
            if not breaks or in_arc(breaks[k], breaks[(k + 1) % len(breaks)], u):
                return far
        raise AssertionError(u)

    def test_thirty_places(self):
        heap = Heap([(tuple(points_of(f"{k},0 {k + 3},{k % 4 + 1}")), 1 + k % 3) for k in range(0, 60, 4)])
        made = together_table(table(heap), table(heap))
        self.assertEqual(made, table(put_together(heap, heap)))


if __name__ == "__main__":
    unittest.main()
