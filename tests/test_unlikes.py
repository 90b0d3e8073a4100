"""[5.6] and [5.7]: likeness, half planes that tell heaps apart, testing."""

import unittest

from plateheaps.directions import back, between, quarter, towards
from plateheaps.halfplanes import half_at, is_half
from plateheaps.halves import half_sum
from plateheaps.heaps import Heap, look
from plateheaps.laying import inside
from plateheaps.unlikes import are_alike, judge_unlike, testing, unlike
from support import (
    Dice, alike_pairs, along, breaks_told, great_values, grid, halves, heap_told, odd_values, points_of, round_sorted,
    small_directions, some_heaps, told_table, twelve_corners, zoo,
)


def nothings():
    """Return heaps with rows that look 0 everywhere."""
    return [one - other for one, other in alike_pairs()]


def slight_ones():
    """Return heaps that look 0 but at few places, or whose half planes often come to 0."""
    found = [heap_told([(text, 1)]) for text in ("0,0", "1/2,-1/3", "0,0 1,0")] + [Heap(inside(zoo()["tri"]))]
    found += [heap_told([("0,0", 1), ("1,0", -1)]), heap_told([("0,0", 1), ("1,0", -2), ("2,0", 1)])]
    found += [heap_told([("0,0", 1), ("1,0", -1), ("1,1", 1), ("0,1", -1)]), heap_told([("0,0 1,0", 1), ("0,1 1,1", -1)])]
    found += [heap_told([("0,0 0,1", 1), ("1,0 1,1", -1), ("0,0 1,0", -1), ("0,1 1,1", 1)])]
    found += [heap_told([("0,0 2,0 0,2", 1), ("0,0 2,0", -1), ("0,0 0,2", -1), ("0,2 2,0", -1)])]
    n = 10 ** 9 - 1
    found += [Heap([(((n, n, n - 1),), 1), (((n, n - 1, n - 1),), -1)])]
    found += [Heap([(((0, 0, 1), (n, 1, 1)), 1), (((0, 0, 1), (n - 1, 1, 1)), -1)])]
    return found + [Heap([(twelve_corners(), 1), (((-1, 6, 1),), -1)])]


class Alike(unittest.TestCase):
    def test_told_by_other_rows(self):
        for one, other in alike_pairs():
            self.assertIs(are_alike(one, other), True)
            self.assertIsNone(unlike(one, other))
            self.assertIsNone(unlike(other, one))

    def test_the_same_rows(self):
        for heap in some_heaps():
            self.assertIs(are_alike(heap, heap + Heap([])), True)
            self.assertIsNone(unlike(heap, heap))

    def test_with_what_looks_like_nothing(self):
        for heap in some_heaps():
            for nothing in nothings():
                self.assertTrue(are_alike(heap, heap + nothing))
                self.assertIsNone(unlike(heap + nothing, heap))

    def test_sums_of_points_and_parts(self):
        whole = Heap([(twelve_corners(), 1)])
        fan = [((-1, 6, 1),) + twelve_corners()[k:k + 2] for k in range(1, 11)]
        rows = [(part, 1) for part in fan] + [(((-1, 6, 1), twelve_corners()[k]), -1) for k in range(2, 11)]
        self.assertTrue(are_alike(whole, Heap(rows)))
        self.assertFalse(are_alike(whole, Heap(rows[:-1])))


class Unlike(unittest.TestCase):
    def check(self, one, other):
        self.assertIs(are_alike(one, other), False)
        found = unlike(one, other)
        self.assertTrue(is_half(found), found)
        self.assertNotEqual(half_sum(one, found), half_sum(other, found))
        self.assertIsNone(judge_unlike(one, other, found))

    def test_all_pairs(self):
        heaps = some_heaps()
        for k, one in enumerate(heaps):
            for other in heaps[:k]:
                self.check(one, other)
                self.check(other, one)

    def test_slight_differences(self):
        for heap in some_heaps():
            for more in slight_ones():
                for nothing in nothings()[:2]:
                    self.check(heap, heap + more + nothing)

    def test_one_weight(self):
        for heap in some_heaps()[1:]:
            for plate, _ in heap.rows():
                self.check(heap, heap + Heap([(plate, 1)]))

    def test_slight_ones_among_themselves(self):
        for k, one in enumerate(slight_ones()):
            for other in slight_ones()[:k]:
                self.check(one, other)

    def test_great_heaps(self):
        one = Dice(3).heap(40, 40, 9, 12)
        self.check(one, one + heap_told([("1/7,1/9", 1)]))
        self.check(one, Heap([]))


class Judged(unittest.TestCase):
    def test_any_value(self):
        one, other = some_heaps()[3], some_heaps()[4]
        for value in odd_values() + great_values() + [(2, 0, 2), (0, 0, 1), (True, 0, 1), [1, 0, 1], (1, 0), one]:
            if not is_half(value):
                self.assertEqual(judge_unlike(one, other, value), ("form",), repr(value)[:60])
                self.assertEqual(judge_unlike(one, one, value), ("form",), repr(value)[:60])

    def test_half_planes(self):
        one, other = some_heaps()[4], some_heaps()[5]
        found = [judge_unlike(one, other, plane) for plane in halves()]
        self.assertEqual(found, [("same",) if half_sum(one, plane) == half_sum(other, plane) else None for plane in halves()])
        self.assertIn(None, found)
        self.assertIn(("same",), found)

    def test_alike_heaps(self):
        for one, other in alike_pairs():
            self.assertEqual(judge_unlike(one, other, None), ("form",))
            for plane in halves():
                self.assertEqual(judge_unlike(one, other, plane), ("same",))


def told_testing(heaps):
    """Return what testing has to be."""
    tables = [told_table(heap) for heap in heaps]
    places = list(dict.fromkeys(p for told in tables for p, _ in told))
    across = [quarter(towards(p, q)) for p in places for q in places if p != q]
    limits = round_sorted([u for told in tables for u in breaks_told(told)] + across + [back(u) for u in across])
    limits = limits or [(1, 0)]
    middles = [between(u, v) for u, v in zip(limits, limits[1:] + limits[:1])]
    return sorted({half_at(u, p) for u in middles for p in places})


def few_places():
    """Return lists of heaps whose tables have at most eight places in all."""
    found = [[], [Heap([])], [heap_told([("0,0", 1)])], [heap_told([("0,0", 1)]), heap_told([("0,0", 2)])]]
    found += [[heap_told([("0,0 2,0 0,2", 1), ("1,1", 1)]), heap_told([("0,0 2,0", 1)])], alike_pairs()[2]]
    found += [[heap_told([("1/2,1/3", 1), ("-1/2,0", 1)])], [Dice(5).heap(2), Heap([]), Dice(8).heap(1)]]
    return found + [[Heap([(zoo()["eight"], 1)])], [zoo_heap("tri"), zoo_heap("box"), zoo_heap("tri") + zoo_heap("flat")]]


def zoo_heap(name):
    return Heap([(zoo()[name], 1)])


class Testing(unittest.TestCase):
    def test_the_list(self):
        for heaps in few_places():
            self.assertEqual(testing(heaps), told_testing(heaps))
            self.assertEqual(testing(tuple(heaps[::-1])), told_testing(heaps))

    def test_just_these(self):
        self.assertEqual(testing([]), [])
        self.assertEqual(testing([Heap([]), Heap([])]), [])
        self.assertEqual(testing([heap_told([("3,0", 1)])]), [(-1, 0, -3)])
        self.assertEqual(testing([heap_told([("0,0 0,1", 1)])]), [(0, -1, -1), (0, -1, 0), (0, 1, 0), (0, 1, 1)])

    def test_they_tell_unlike_heaps_apart(self):
        heaps = [zoo_heap("tri"), zoo_heap("flat"), heap_told([("0,0", 1), ("2,0", 1)]), heap_told([("1,1", 3)])]
        heaps += [heap_told([("0,0 1,1", 1), ("1,1 2,0", 1)]), Heap([]), heap_told([("0,0 2,0 0,2", 1), ("0,0", -1)])]
        heaps += [heap_told([("0,0 1,0", 1), ("1,0 2,0", 1), ("1,0", -1)])]
        planes = testing(heaps)
        for one in heaps:
            for other in heaps:
                same = all(half_sum(one, plane) == half_sum(other, plane) for plane in planes)
                self.assertEqual(same, are_alike(one, other))
                self.assertEqual(same, all(look(one, p) == look(other, p) for p in grid()))

    def test_no_two_places_have_one_height(self):
        places = points_of("0,0 2,0 0,2 1,1")
        for plane in testing([zoo_heap("tri") + heap_told([("1,1", 1)])]):
            heights = [along(plane[:2], p) for p in places]
            self.assertEqual(len(set(heights)), 4, plane)

    def test_eight_places(self):
        planes = testing([zoo_heap("eight")])
        self.assertGreater(len(planes), 100)
        self.assertEqual(planes, sorted(set(planes)))

    def test_what_is_passed_stays_and_what_is_told_is_new(self):
        heaps = [zoo_heap("tri"), zoo_heap("flat")]
        found = testing(heaps)
        self.assertIs(type(found), list)
        found.clear()
        self.assertTrue(testing(heaps))
        self.assertEqual(heaps, [zoo_heap("tri"), zoo_heap("flat")])


class Directions(unittest.TestCase):
    def test_points_in_all_directions(self):
        for u in small_directions():
            one, other = Heap([(((0, 0, 1),), 1)]), Heap([((u + (1,),), 1)])
            plane = unlike(one, other)
            self.assertNotEqual(half_sum(one, plane), half_sum(other, plane))


if __name__ == "__main__":
    unittest.main()
