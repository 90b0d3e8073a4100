"""[7.1]: looks just beside a place."""

import unittest
from fractions import Fraction

from plateheaps.directions import between
from plateheaps.germs import germ, off, rim
from plateheaps.heaps import Heap, look
from plateheaps.laying import inside
from plateheaps.rounds import judge_round, round_at, times_round
from support import (
    Dice, alike_pairs, as_place, at, grid, heap_told, places_beside, points_of, small_directions, some_heaps,
    twelve_corners, zoo,
)

ROUND = small_directions()


def probes():
    """Return directions so many that between any two of small_directions there is one."""
    return ROUND + [between(u, v) for u, v in zip(ROUND, ROUND[1:] + ROUND[:1])]


def look_beside(heap, p, u):
    """Return the look a tiny way off: nearer than any corner or side of plates of small numbers."""
    x, y = at(p)
    tiny = Fraction(1, 10 ** 9)
    return look(heap, as_place(x + tiny * u[0], y + tiny * u[1]))


class Germs(unittest.TestCase):
    def test_looks_a_tiny_way_off(self):
        for heap in some_heaps():
            for p in places_beside(heap)[::6] + sorted({p for plate, _ in heap.rows() for p in plate})[:12]:
                made = germ(heap, p)
                self.assertIsNone(judge_round(made))
                for u in probes()[::3] + [entry[0] for entry in made]:
                    told = look_beside(heap, p, u)
                    self.assertEqual(round_at(made, u), told, (p, u))
                    self.assertEqual(off(heap, p, u), told, (p, u))

    def test_between_its_entries(self):
        for heap in some_heaps()[3:]:
            for p in sorted({p for plate, _ in heap.rows() for p in plate})[:12]:
                made = germ(heap, p)
                for one, other in zip(made, made[1:] + made[:1]):
                    w = between(one[0], other[0])
                    for u in (between(one[0], w), w, between(w, other[0])):
                        self.assertEqual(look_beside(heap, p, u), one[2])

    def check(self, text, told):
        """See whether the germs of a plate are as told at the places of texts."""
        heap = heap_told([(text, 5)])
        for place, entries in told.items():
            p = points_of(place)[0]
            self.assertEqual(germ(heap, p), times_round(entries, 5), (text, place))

    def test_pieces(self):
        everywhere, nowhere = (((1, 0), 1, 1),), (((1, 0), 0, 0),)
        self.check("0,0 2,0 0,2", {
            "0,0": (((1, 0), 1, 1), ((0, 1), 1, 0)), "2,0": (((-1, 1), 1, 1), ((-1, 0), 1, 0)),
            "0,2": (((0, -1), 1, 1), ((1, -1), 1, 0)), "1,0": (((1, 0), 1, 1), ((-1, 0), 1, 0)),
            "1,1": (((-1, 1), 1, 1), ((1, -1), 1, 0)), "0,1/2": (((1, 0), 1, 1), ((0, 1), 1, 0), ((0, -1), 1, 1))[1:],
            "1/2,1/2": everywhere, "3,0": nowhere, "-1,0": nowhere, "2,2": nowhere,
        })

    def test_stretches(self):
        nowhere = (((1, 0), 0, 0),)
        self.check("0,0 4,2", {
            "0,0": (((2, 1), 1, 0),), "4,2": (((-2, -1), 1, 0),), "1,1/2": (((2, 1), 1, 0), ((-2, -1), 1, 0)),
            "1,1": nowhere, "6,3": nowhere, "-2,-1": nowhere,
        })
        self.check("0,0 0,1", {"0,0": (((0, 1), 1, 0),), "0,1/3": (((0, 1), 1, 0), ((0, -1), 1, 0))})

    def test_points(self):
        self.check("1,1", {"1,1": (((1, 0), 0, 0),), "0,0": (((1, 0), 0, 0),)})

    def test_the_empty_heap(self):
        self.assertEqual(germ(Heap([]), (1, 2, 3)), (((1, 0), 0, 0),))
        self.assertEqual(off(Heap([]), (1, 2, 3), (1, 0)), 0)
        self.assertFalse(rim(Heap([]), (1, 2, 3)))

    def test_corners_of_twelve(self):
        plate = twelve_corners()
        for k, p in enumerate(plate):
            made = germ(Heap([(plate, 1)]), p)
            self.assertEqual({(one, other) for _, one, other in made}, {(1, 1), (1, 0)})
            ends = {tuple(Fraction(a - b) for a, b in zip(at(plate[j % 12]), at(p))) for j in (k - 1, k + 1)}
            for u, _, _ in made:
                self.assertTrue(any(x * u[1] == y * u[0] and x * u[0] + y * u[1] > 0 for x, y in ends))

    def test_alike_heaps(self):
        for one, other in alike_pairs():
            for p in grid():
                self.assertEqual(germ(one, p), germ(other, p))
                self.assertEqual(rim(one, p), rim(other, p))


class Rims(unittest.TestCase):
    def test_another_look_beside(self):
        for heap in some_heaps():
            for p in places_beside(heap)[::5]:
                told = any(look_beside(heap, p, u) != look(heap, p) for u in probes() + [e[0] for e in germ(heap, p)])
                self.assertIs(rim(heap, p), told, p)

    def test_just_these(self):
        told = {"tri": "0,0 1,0 1,1 2,0 0,1/2", "flat": "0,0 1,0 2,0", "lone": "-2/3,1/3"}
        for name in told:
            for p in points_of(told[name]):
                self.assertTrue(rim(Heap([(zoo()[name], -2)]), p))
            for p in points_of("1/2,1/2 1/4,1/3 5,5"):
                self.assertFalse(rim(Heap([(zoo()[name], -2)]), p))

    def test_what_cancels(self):
        heap = heap_told([("0,0 2,0 0,2", 1), ("0,2 2,0 2,2", 1), ("0,2 2,0", -1)])
        self.assertFalse(rim(heap, (1, 1, 1)))
        self.assertTrue(rim(heap, (2, 0, 1)))

    def test_a_look_that_differs_at_the_place_alone(self):
        heap = heap_told([("0,0 2,0 0,2", 1), ("1/2,1/2", 1)])
        self.assertEqual(germ(heap, (1, 1, 2)), (((1, 0), 1, 1),))
        self.assertTrue(rim(heap, (1, 1, 2)))
        self.assertTrue(rim(Heap(inside(zoo()["tri"])), (1, 0, 1)))

    def test_in_one_direction_alone(self):
        heap = heap_told([("0,0 2,0 0,2", 1), ("1/2,1/2 1,1/2", 1), ("1/2,1/2", -1)])
        self.assertEqual(germ(heap, (1, 1, 2)), (((1, 0), 2, 1),))
        self.assertTrue(rim(heap, (1, 1, 2)))


class Great(unittest.TestCase):
    def test_forty_rows(self):
        heap = Dice(11).heap(40, 6, 2, 12)
        for p in grid()[::7]:
            for u in ROUND[::5]:
                self.assertEqual(off(heap, p, u), look_beside(heap, p, u))


if __name__ == "__main__":
    unittest.main()
