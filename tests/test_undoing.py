"""[6.3]: heaps taken back, judged, and quotients."""

import unittest

from plateheaps.bent import bends, bent_heap
from plateheaps.errors import NoUndoing
from plateheaps.heaps import Heap, look
from plateheaps.laying import inside, mirror, put
from plateheaps.places import scaled
from plateheaps.plates import hull
from plateheaps.products import put_together, together_table
from plateheaps.tables import table
from plateheaps.undoing import judge_back, quotient, taken_back
from plateheaps.unlikes import are_alike
from support import (
    Dice, alike_pairs, great_values, grid, heap_told, odd_values, some_heaps, told_arcs, told_table, twelve_corners, zoo,
)

ORIGIN = (0, 0, 1)
POINT = Heap([((ORIGIN,), 1)])


def plates():
    return list(zoo().values()) + [twelve_corners()]


def once(plate):
    return Heap([(plate, 1)])


def undone_heap(plate):
    """Return the heap that takes back a plate, as the document tells it."""
    sign = -1 if len(plate) == 2 else 1
    return Heap([(part, sign * weight) for part, weight in inside(mirror(plate))])


def tilted():
    """Return a plate of eight sides, none of which has a normal of those of zoo."""
    plate = zoo()["lone"]
    for p in ((3, 1, 1), (1, 3, 1), (-1, 3, 1), (-3, 1, 1)):
        plate = put(plate, hull([ORIGIN, p]))
    return plate


def lone_heaps():
    """Return heaps that can be taken back: plates, plates with others taken back, with either sign."""
    found = [once(plate) for plate in plates()] + [undone_heap(plate) for plate in plates()]
    names = ("tri", "flat", "slant", "box", "five", "lone")
    for k, one in enumerate(names):
        for other in names[:k]:
            found.append((-1) ** k * put_together(once(zoo()[one]), undone_heap(zoo()[other])))
    return found


def puzzling():
    """Return heaps that cannot be taken back."""
    found = [Heap([]), 2 * POINT, heap_told([("0,0", 1), ("1,0", 1)]), heap_told([("0,0 2,0", 1), ("0,0 0,2", 1)])]
    found += [heap_told([("0,0 2,0 0,2", 1), ("0,0 2,0", -1)]), heap_told([("0,0 2,0 0,2", 1), ("5,5", 1)])]
    found += [heap_told([("0,0 2,0 0,2", 1), ("1/2,1/2", -1)]), -2 * once(zoo()["box"]), some_heaps()[5]]
    return found + [one for pair in alike_pairs()[1:] for one in pair]


def first_clash(heap):
    """Return the direction that NoUndoing has to bear, None if the heap can be taken back."""
    for u, far in told_arcs(told_table(heap)):
        if len(far) != 1 or far[0][1] not in (1, -1):
            return u
    return None


class TakenBack(unittest.TestCase):
    def test_put_together_they_come_to_a_point(self):
        for heap in lone_heaps():
            found = taken_back(heap)
            self.assertLessEqual(len(found), 2000)
            self.assertIsNone(judge_back(heap, found))
            self.assertEqual(found.total(), heap.total())
            both = together_table(table(heap), table(found))
            self.assertEqual(both, table(POINT))

    def test_looks_of_the_two_put_together(self):
        for heap in lone_heaps()[::3]:
            both = put_together(heap, taken_back(heap)) if len(heap) < 12 else POINT
            for p in grid()[::3] + [ORIGIN]:
                self.assertEqual(look(both, p), int(p == ORIGIN))

    def test_as_the_document_tells_it(self):
        for plate in plates():
            self.assertTrue(are_alike(taken_back(once(plate)), undone_heap(plate)))
            self.assertTrue(are_alike(taken_back(undone_heap(plate)), once(plate)))

    def test_twice(self):
        for heap in lone_heaps():
            self.assertTrue(are_alike(taken_back(taken_back(heap)), heap))
            self.assertEqual(bends(taken_back(heap))[0], bends(heap)[0])

    def test_points(self):
        self.assertTrue(are_alike(taken_back(POINT), POINT))
        self.assertTrue(are_alike(taken_back(heap_told([("1/2,3", -1)])), heap_told([("-1/2,-3", -1)])))

    def test_told_by_other_rows(self):
        nothing = heap_told([("-1,0 1,0", 1), ("-1,0 0,0", -1), ("0,0 1,0", -1), ("0,0", 1)])
        for heap in lone_heaps()[:20]:
            self.assertIsNone(judge_back(heap + nothing, taken_back(heap + nothing)))
            self.assertTrue(are_alike(taken_back(heap + nothing), taken_back(heap)))

    def test_what_cannot_be(self):
        for heap in puzzling() + some_heaps():
            told = first_clash(heap)
            if told is None:
                self.assertIsNone(judge_back(heap, taken_back(heap)))
                continue
            with self.assertRaises(NoUndoing) as caught:
                taken_back(heap)
            self.assertEqual(caught.exception.direction, told)

    def test_just_these_directions(self):
        for heap, told in ((Heap([]), (1, 0)), (2 * POINT, (1, 0)), (heap_told([("0,0", 1), ("1,0", 1)]), (1, 0)),
                           (heap_told([("0,0 1,0", 1), ("0,0 0,1", 1)]), (1, 1)),
                           (heap_told([("0,0 2,0 0,2", 1), ("0,0 2,0", -1)]), (1, 2)),
                           (heap_told([("0,0 2,0", 3)]), (-1, 0))):
            self.assertEqual(first_clash(heap), told)
            with self.assertRaises(NoUndoing) as caught:
                taken_back(heap)
            self.assertEqual(caught.exception.direction, told)

    def test_many_rows_are_not_too_many(self):
        one = put_together(once(tilted()), undone_heap(twelve_corners()))
        one = one + heap_told([("-1,0 1,0", 1), ("-1,0 0,0", -1), ("0,0 1,0", -1), ("0,0", 1)])
        found = taken_back(one)
        self.assertGreater(len(one) * len(found), 400)
        self.assertIsNone(judge_back(one, found))


class Judged(unittest.TestCase):
    def test_no_heap(self):
        for value in odd_values() + great_values() + [POINT.rows(), tuple(POINT.rows())]:
            if not isinstance(value, Heap):
                for heap in (POINT, Heap([]), some_heaps()[5]):
                    self.assertEqual(judge_back(heap, value), ("form",), repr(value)[:60])

    def test_the_first_arc(self):
        found = {}
        for heap in lone_heaps()[:20:3] + puzzling()[:6]:
            for value in lone_heaps()[1:36:4] + puzzling()[:4]:
                if len(heap) * len(value) > 12:
                    continue
                arcs = told_arcs(told_table(put_together(heap, value)))
                wrong = [u for u, far in arcs if far != [(ORIGIN, 1)]]
                told = ("tops", wrong[0]) if wrong else None
                self.assertEqual(judge_back(heap, value), told)
                found[told] = True
        self.assertGreater(len(found), 5)

    def test_just_these(self):
        flat = heap_told([("0,0 1,0", 1)])
        hollow = heap_told([("-1,0 0,0", -1), ("-1,0", 1), ("0,0", 1)])
        self.assertIsNone(judge_back(flat, hollow))
        self.assertIsNone(judge_back(hollow, flat))
        self.assertEqual(judge_back(flat, flat), ("tops", (1, 0)))
        self.assertEqual(judge_back(flat, -1 * hollow), ("tops", (1, 0)))
        self.assertEqual(judge_back(flat, Heap([])), ("tops", (1, 0)))
        self.assertEqual(judge_back(POINT, 2 * POINT), ("tops", (1, 0)))
        self.assertEqual(judge_back(hollow, hollow), ("tops", (1, 0)))
        self.assertIsNone(judge_back(-1 * POINT, -1 * POINT))
        self.assertEqual(judge_back(heap_told([("0,0 0,1", 1)]), POINT), ("tops", (0, 1)))

    def test_breaks_that_cancel_in_the_product(self):
        square = once(zoo()["box"])
        more = put_together(undone_heap(zoo()["box"]), heap_told([("0,0 0,3", 1)]))
        self.assertEqual(judge_back(square, more), ("tops", (0, 1)))
        moved = put_together(undone_heap(zoo()["box"]), heap_told([("1/2,0", 1)]))
        self.assertEqual(judge_back(square, moved), ("tops", (1, 0)))

    def test_nothing_is_too_many(self):
        one, other = Dice(5).heap(40, 9, 3, 12), Dice(6).heap(20, 9, 3, 12)
        self.assertEqual(judge_back(one, other)[0], "tops")
        self.assertEqual(judge_back(one, Heap([])), ("tops", (1, 0)))


class Quotients(unittest.TestCase):
    def test_put_together_with_the_other(self):
        for one in some_heaps()[:5]:
            for other in lone_heaps()[::5]:
                made = quotient(one, other)
                self.assertLessEqual(len(made), 2000)
                self.assertEqual(together_table(table(made), table(other)), table(one))

    def test_of_heaps_put_together(self):
        for one in some_heaps()[1:5]:
            for other in lone_heaps()[1::6]:
                if len(one) * len(other) <= 200:
                    self.assertTrue(are_alike(quotient(put_together(one, other), other), one))

    def test_by_itself(self):
        for heap in lone_heaps()[::2]:
            if len(heap) <= 12:
                self.assertTrue(are_alike(quotient(heap, heap), POINT))
                self.assertTrue(are_alike(quotient(POINT, heap), taken_back(heap)))

    def test_what_cannot_be(self):
        for other in puzzling():
            for one in (Heap([]), POINT, other, once(zoo()["five"])):
                with self.assertRaises(NoUndoing) as caught:
                    quotient(one, other)
                self.assertEqual(caught.exception.direction, first_clash(other))

    def test_thirty_rows_by_sixteen_breaks(self):
        small = hull([scaled(p, 1, 3) for p in zoo()["eight"]])
        other = put_together(once(tilted()), undone_heap(small))
        self.assertEqual(len({u for _, arcs in table(other) for u, _ in arcs}), 16)
        one = Heap([(twelve_corners(), 3)] + [(hull([(k, 0, 1), (0, k, 1), (k, k, 2 * k - 1)]), k) for k in range(2, 31)])
        self.assertEqual(len(one), 30)
        made = quotient(one, other)
        self.assertLessEqual(len(made), 2000)
        self.assertGreater(len(made), 400)
        self.assertEqual(together_table(table(made), table(other)), table(one))

    def test_the_empty_heap(self):
        for other in lone_heaps()[::4]:
            self.assertEqual(table(quotient(Heap([]), other)), ())

    def test_of_what_bent_heap_and_taken_back_returned(self):
        other = bent_heap((-1, (1, 2, 3), [((1, 0), (-1, 1)), ((0, 1), (2, 1)), ((-1, 0), (-1, 1)), ((0, -1), (2, 1))]))
        for one in (taken_back(other), once(zoo()["five"]), taken_back(once(zoo()["tri"]))):
            made = quotient(one, other)
            self.assertEqual(together_table(table(made), table(other)), table(one))
            again = quotient(one, taken_back(other))
            self.assertTrue(are_alike(put_together(one, other), again))


if __name__ == "__main__":
    unittest.main()
