"""[3.4]: heaps laid over one another, and heaps cut."""

import unittest

from plateheaps.errors import TooMany
from plateheaps.halfplanes import facing, has, on_line
from plateheaps.heaps import Heap, look
from plateheaps.overlays import cut, cut_line, cut_open, over
from support import grid, halves, points_of, zoo


def heap_of_all():
    return Heap([(plate, 2 * k - 9) for k, plate in enumerate(zoo().values())])


def fan(many, more=()):
    """Return the heap of stretches from (0, 0) to (1, 1), (2, 1) and so on, and of more plates."""
    return Heap([(((0, 0, 1), (k, 1, 1)), 1) for k in range(1, many + 1)] + [(plate, 1) for plate in more])


class Over(unittest.TestCase):
    def test_looks_are_multiplied(self):
        one, other = heap_of_all(), Heap([(zoo()["five"], 2), (zoo()["slant"], -3), (zoo()["point"], 1)])
        both = over(one, other)
        for p in grid() + [p for plate in zoo().values() for p in plate]:
            self.assertEqual(look(both, p), look(one, p) * look(other, p))
        self.assertEqual(both, over(other, one))

    def test_meets_with_weights_multiplied(self):
        box, flat = zoo()["box"], zoo()["flat"]
        found = over(Heap([(box, 3), (zoo()["far"], 1)]), Heap([(flat, -2), (zoo()["lone"], 5)]))
        self.assertEqual(found.rows(), [(tuple(points_of("0,0 1,0")), -6)])

    def test_equal_meets_are_added_and_may_cancel(self):
        box, tri, origin = zoo()["box"], zoo()["tri"], zoo()["origin"]
        self.assertEqual(over(Heap([(box, 3), (tri, 4)]), Heap([(origin, 1)])).rows(), [(origin, 7)])
        self.assertEqual(over(Heap([(box, 3), (tri, -3)]), Heap([(origin, 1)])).rows(), [])

    def test_nothing(self):
        self.assertEqual(over(Heap([]), heap_of_all()), Heap([]))
        self.assertEqual(over(Heap([(zoo()["far"], 1)]), Heap([(zoo()["tri"], 1)])), Heap([]))


class Many(unittest.TestCase):
    def test_four_hundred_pairs(self):
        self.assertEqual(look(over(fan(20), fan(20)), (0, 0, 1)), 400)

    def test_pairs_that_do_not_meet_do_not_count(self):
        apart = [((k, 9, 1),) for k in range(15)]
        self.assertEqual(look(over(fan(20, apart), fan(20)), (0, 0, 1)), 400)
        self.assertEqual(look(over(fan(20), fan(20, apart)), (0, 0, 1)), 400)

    def test_four_hundred_and_one(self):
        last = [((20, 1, 1),)]
        for one, other in ((fan(20, last), fan(20)), (fan(20), fan(20, last))):
            with self.assertRaises(TooMany):
                over(one, other)

    def test_pairs_whose_weights_cancel_count(self):
        rays = fan(20).rows()
        twin = Heap([(plate, weight if k % 2 else -weight) for k, (plate, weight) in enumerate(rays)])
        point = Heap([(((20, 1, 1),), 1)])
        self.assertEqual(over(twin, fan(20)).total(), 0)
        with self.assertRaises(TooMany):
            over(twin + point, fan(20))


class Cut(unittest.TestCase):
    def test_looks(self):
        heap = heap_of_all()
        for plane in halves():
            kept, line, beyond = cut(heap, plane), cut_line(heap, plane), cut_open(heap, plane)
            for p in grid():
                here = look(heap, p)
                self.assertEqual(look(kept, p), here if has(plane, p) else 0)
                self.assertEqual(look(line, p), here if on_line(plane, p) else 0)
                self.assertEqual(look(beyond, p), 0 if has(facing(plane), p) else here)
                self.assertEqual(look(line + beyond, p), look(kept, p))

    def test_rows(self):
        heap = Heap([(zoo()["box"], 2), (zoo()["tri"], 3), (zoo()["far"], 7)])
        left = [(tuple(points_of("0,0 0,1")), 2), (tuple(points_of("0,0 0,2")), 3)]
        self.assertEqual(cut(heap, (-1, 0, 0)).rows(), left)
        self.assertEqual(cut(heap, (-1, -1, 0)).rows(), [(zoo()["origin"], 5)])
        self.assertEqual(cut(heap, (1, 1, 10)).rows(), [(zoo()["far"], 7)])
        self.assertEqual(cut(heap, (1, 1, 100)).rows(), [])

    def test_both_ways_of_the_line(self):
        heap = heap_of_all()
        for plane in halves():
            self.assertEqual(cut_line(heap, plane), cut_line(heap, facing(plane)))
            self.assertEqual(cut_open(heap, plane), heap - cut(heap, facing(plane)))


if __name__ == "__main__":
    unittest.main()
