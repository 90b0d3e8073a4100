"""[8.3], [8.4], [8.5]: stains, their pieces and holes, walks."""

import unittest

from plateheaps.cells import cells
from plateheaps.errors import NotClosed, TooMany
from plateheaps.heaps import Heap, look
from plateheaps.insides import inside_out
from plateheaps.laying import inside
from plateheaps.places import place
from plateheaps.plates import hull
from plateheaps.stains import holes, is_closed, judge_walk, pieces, stain, walk, where, without
from plane import holes_told, is_closed_told, is_lit_on, is_walk_told, mean, parts, pieces_told, told_cells
from support import (
    Dice, alike_pairs, great_values, grid, heap_told, look_told, odd_values, points_of, some_heaps, zoo,
)
from test_cells import fan, points

BIG, SMALL = "0,0 3,0 3,3 0,3", "1,1 2,1 2,2 1,2"


def open_part(text, weight=1):
    """Return the heap of a plate's inside."""
    return Heap([(part, weight * sign) for part, sign in inside(tuple(points_of(text)))])


def ring():
    return heap_told([(BIG, 1)]) - open_part(SMALL)


def named():
    """Return (heap, whether its stain is closed, its pieces, its holes, None where it is not closed)."""
    square = heap_told([(BIG, 2)])
    wheel = [("0,0 4,0", 1), ("0,0 0,4", 1), ("4,0 4,4", 1), ("0,4 4,4", 1), ("0,0 4,4", 1), ("0,4 4,0", 1)]
    return [
        (Heap([]), True, 0, 0), (heap_told([("1,1", -3)]), True, 1, 0), (heap_told([("0,0 2,0", 1)]), True, 1, 0),
        (square, True, 1, 0), (-1 * square, True, 1, 0), (ring(), True, 1, 1), (3 * ring(), True, 1, 1),
        (square - 2 * heap_told([("1,1", 1)]), False, 1, None), (open_part(BIG), False, 1, None),
        (open_part("0,0 2,0"), False, 1, None), (heap_told([("0,0 2,0", 1), ("0,0", -1)]), False, 1, None),
        (heap_told([("0,0 1,0 1,1 0,1", 1), ("1,1 2,1 2,2 1,2", 1)]), True, 1, 0),
        (heap_told([("0,0 1,0 1,1 0,1", 1), ("1,1 2,1 2,2 1,2", -1)]), False, 2, None),
        (heap_told([("0,0 1,0 1,1 0,1", 1), ("1,1 2,1 2,2 1,2", 1), ("0,2 1,1", 1)]), True, 1, 0),
        (heap_told([("0,0 1,0 1,1 0,1", 1), ("2,0 3,0 3,1 2,1", 1), ("5,5", 1)]), True, 3, 0),
        (heap_told(wheel), True, 1, 4), (heap_told(wheel[:4]), True, 1, 1), (heap_told(wheel[:3]), True, 1, 0),
        (heap_told(wheel[:4] + [("1,1", 1)]), True, 2, 1), (heap_told(wheel[:4] + [("1,1 2,1 2,2 1,2", 5)]), True, 2, 1),
        (heap_told([("0,0 2,0", 1), ("1,0 3,0", -1)]), False, 2, None), (open_part(BIG) + heap_told([("0,0", 1)]), False, 1, None),
        (open_part(BIG) + heap_told([("0,0 3,0", 1)]), False, 1, None),
        (open_part("0,0 1,0 1,1 0,1") + open_part("1,0 2,0 2,1 1,1"), False, 2, None),
        (open_part("0,0 1,0 1,1 0,1") + open_part("1,0 2,0 2,1 1,1") + open_part("1,0 1,1"), False, 1, None),
        (open_part("0,0 1,0 1,1 0,1") + open_part("1,0 2,0 2,1 1,1") + heap_told([("1,1/2", 1)]), False, 1, None),
        (heap_told([("0,0 4,0 4,4 0,4", 1)]) - open_part("0,0 1,0 1,1 0,1"), True, 1, 1),
        (heap_told([("0,0 4,0 4,4 0,4", 1)]) - open_part("1,1 2,1 2,2 1,2") - open_part("2,2 3,2 3,3 2,3"), True, 1, 2),
        (heap_told([("0,0 4,0 4,4 0,4", 1)]) - open_part("1,1 2,1 2,2 1,2") - open_part("2,1 3,1 3,2 2,2"), True, 1, 2),
        (heap_told([(BIG, 1)]) - heap_told([(BIG, 1)]), True, 0, 0),
    ]


def heaps():
    dice = [Dice(60 + seed).heap(3, 3, 2) for seed in range(6)]
    return [entry[0] for entry in named()] + some_heaps() + [heap for pair in alike_pairs() for heap in pair] + dice


def small_heaps():
    return [heap for heap in heaps() if len(cells(heap)) < 250]


def spots(heap):
    """Return inner places of at most sixty cells, and places off the heap and elsewhere."""
    inners = [mean(plate) for _, plate, _ in told_cells(heap)]
    return inners[::len(inners) // 60 + 1] + grid()[::12] + points_of("-9,-9 9,0")


class Stains(unittest.TestCase):
    def test_looks_of_stains(self):
        for heap in heaps():
            made = stain(heap)
            self.assertLessEqual(len(made), 2 * len(cells(heap)))
            for p in spots(heap):
                self.assertEqual(look(made, p), 0 if look_told(heap, p) == 0 else 1, p)

    def test_looks_where_they_come(self):
        for heap in heaps():
            looks = {seen for _, _, seen in told_cells(heap)}
            for n in sorted((looks | {1, -1, 77}) - {0})[:5]:
                made = where(heap, n)
                self.assertLessEqual(len(made), 2 * len(cells(heap)))
                for p in spots(heap)[::2]:
                    self.assertEqual(look(made, p), 1 if look_told(heap, p) == n else 0, (n, p))

    def test_a_look_that_does_not_come(self):
        heap = heap_told([(BIG, 2), (SMALL, 1)])
        for n in (1, -2, 5, 10 ** 30):
            self.assertEqual(where(heap, n), Heap([]))
        self.assertEqual(where(Heap([]), 1), Heap([]))

    def test_without(self):
        chosen = heaps()[3:30:3] + some_heaps()[7:10:2]
        for k, one in enumerate(chosen):
            for other in (chosen[k - 1], chosen[k - 4], one, Heap([])):
                made = without(one, other)
                both = cells(Heap([(plate, 1) for plate in {row[0] for row in one.rows() + other.rows()}]))
                self.assertLessEqual(len(made), 2 * len(both))
                for p in (spots(one) + spots(other))[::2]:
                    self.assertEqual(look(made, p), look_told(one, p) if look_told(other, p) == 0 else 0, p)

    def test_without_keeps_looks_below_0_and_above_1(self):
        made = without(heap_told([(BIG, -7), ("0,0", 3)]), heap_told([(SMALL, 5)]))
        for text, told in (("0,0", -4), ("1/2,1/2", -7), ("1,1", 0), ("3/2,3/2", 0), ("3,3", -7), ("4,4", 0)):
            self.assertEqual(look(made, points_of(text)[0]), told, text)

    def test_the_empty_heap(self):
        self.assertEqual([stain(Heap([])), without(Heap([]), Heap([]))], [Heap([])] * 2)
        self.assertEqual(without(Heap([]), ring()), Heap([]))

    def test_the_heaps_stay(self):
        one, other = ring(), heap_told([(SMALL, 1)])
        rows = [one.rows(), other.rows()]
        for call in (stain, is_closed, pieces, holes):
            call(one)
        without(one, other)
        self.assertEqual([one.rows(), other.rows()], rows)


class Pieces(unittest.TestCase):
    def test_named_ones(self):
        for k, (heap, closed, many, open_ones) in enumerate(named()):
            self.assertIs(is_closed(heap), closed, k)
            self.assertEqual(pieces(heap), many, k)
            if closed:
                self.assertEqual(holes(heap), open_ones, k)
            else:
                with self.assertRaises(NotClosed):
                    holes(heap)

    def test_all_kinds(self):
        for heap in small_heaps():
            self.assertIs(is_closed(heap), is_closed_told(heap))
            self.assertEqual(pieces(heap), pieces_told(heap))
            if is_closed(heap):
                self.assertEqual(holes(heap), holes_told(heap))

    def test_the_total_of_a_closed_stain(self):
        closed = [heap for heap in heaps() if is_closed(heap)]
        self.assertGreater(len(closed), 20)
        for heap in closed:
            self.assertEqual(stain(heap).total(), pieces(heap) - holes(heap))

    def test_holes_within_pieces_within_holes(self):
        rings = ring()
        for n in (5, 25):
            rings = Heap([(hull([place(n * p[0] - 7, n * p[1] - 7, 1) for p in plate]), w) for plate, w in ring().rows()]) + rings
        self.assertEqual([pieces(rings), holes(rings)], [pieces_told(rings), holes_told(rings)])

    def test_a_hole_that_is_a_point(self):
        heap = heap_told([(BIG, 1), ("1,1", -1)])
        self.assertEqual([is_closed(heap), pieces(heap)], [False, 1])
        with self.assertRaises(NotClosed):
            holes(heap)

    def test_inside_out(self):
        for seed in range(5):
            heap = inside_out(Dice(70 + seed).heap(3, 3, 2))
            self.assertEqual([is_closed(heap), pieces(heap)], [is_closed_told(heap), pieces_told(heap)])


class Caps(unittest.TestCase):
    def test_too_many_as_cells_and_ahead_of_all_else(self):
        full, over = fan() + points(27, 5000), fan() + points(28, 5000)
        p = (0, -2, 1)
        calls = [stain, is_closed, pieces, holes]
        calls += [lambda heap: where(heap, 1), lambda heap: walk(heap, p, p), lambda heap: walk(heap, (9, 9, 1), p)]
        for call in calls:
            call(full)
            with self.assertRaises(TooMany):
                call(over)

    def test_too_many_ahead_of_not_closed(self):
        over = fan() + points(28, 5000) + heap_told([("-9,0 -8,0", 1), ("-9,0", -1)])
        with self.assertRaises(TooMany):
            holes(over)

    def test_of_both_heaps_plates_together(self):
        one, other = fan() + points(20, 5000), points(7, 5020)
        self.assertIsInstance(without(one, other), Heap)
        self.assertIsInstance(without(other, one), Heap)
        self.assertIsInstance(without(one, other + points(20, 5000)), Heap)
        for more in (points(8, 5020), points(8, 5020) * -1):
            with self.assertRaises(TooMany):
                without(one, more)
            with self.assertRaises(TooMany):
                without(more, one)

    def test_judge_walk_raises_none(self):
        over = fan() + points(28, 5000)
        self.assertIsNone(judge_walk(over, (5000, 5, 1), (5000, 5, 1), ((5000, 5, 1),)))
        self.assertEqual(judge_walk(over, (5000, 5, 1), (5001, 5, 1), ((5000, 5, 1), (5001, 5, 1))), ("leaves", 0))
        self.assertEqual(judge_walk(over, (5000, 5, 1), (5000, 5, 1), ()), ("form",))


class Walks(unittest.TestCase):
    def test_from_each_cell_to_each_other_one(self):
        for heap in small_heaps():
            groups = parts([cell for cell in told_cells(heap) if cell[2] != 0])
            chosen = [(mean(cell[1]), k) for k, group in enumerate(groups) for cell in group][::5]
            for p, k in chosen[:7]:
                for q, n in chosen[-7:]:
                    made = walk(heap, p, q)
                    self.assertEqual(made is None, k != n, (p, q))
                    if made is not None:
                        self.assertTrue(is_walk_told(heap, p, q, made), (p, q, made))
                        self.assertIsNone(judge_walk(heap, p, q, made))

    def test_places_that_are_none_of_the_stain(self):
        for p, q in (("9,9", "0,0"), ("0,0", "9,9"), ("3/2,3/2", "0,0"), ("0,0", "3/2,3/2"), ("9,9", "9,9")):
            self.assertIsNone(walk(ring(), points_of(p)[0], points_of(q)[0]))
        self.assertIsNone(walk(Heap([]), (0, 0, 1), (0, 0, 1)))

    def test_of_one_place(self):
        self.assertEqual(walk(heap_told([("1,1", -2)]), (1, 1, 1), (1, 1, 1)), ((1, 1, 1),))
        for p in points_of("0,0 1/2,1/3 1,1 3,1/7"):
            made = walk(ring(), p, p)
            self.assertIsNone(judge_walk(ring(), p, p, made))

    def test_within_one_cell(self):
        p, q = points_of("1/3,1/5 2,5/2")
        made = walk(heap_told([(BIG, 1)]), p, q)
        self.assertTrue(is_walk_told(heap_told([(BIG, 1)]), p, q, made))

    def test_kinds(self):
        made = walk(ring(), (0, 0, 1), (3, 3, 1))
        self.assertIsInstance(made, tuple)
        self.assertTrue(all(isinstance(p, tuple) for p in made))


class Judge(unittest.TestCase):
    def test_any_value(self):
        p = (0, 0, 1)
        odd = [value for value in odd_values() if value != ((1, 2, 1),) * 2]
        for value in odd + great_values() + [[p], [p, p], ([0, 0, 1],), ((0, 0, 2),), (p, None), (p, (0, 0, True))]:
            self.assertEqual(judge_walk(ring(), p, p, value), ("form",), repr(value)[:80])

    def test_the_form_ahead_of_the_ends_ahead_of_leaving(self):
        heap, p, q = ring(), (0, 0, 1), (3, 3, 1)
        off = (9, 9, 1)
        for value, told in (
            ((p, off, None), ("form",)), ((off, p, (0, 0)), ("form",)), ((off, q), ("ends",)), ((p, off), ("ends",)),
            ((q, p), ("ends",)), ((p,), ("ends",)), ((p, off, q), ("leaves", 0)), ((p, p, off, q), ("leaves", 1)),
        ):
            self.assertEqual(judge_walk(heap, p, q, value), told, value)

    def test_leaving_at_a_place(self):
        heap = heap_told([("0,0 2,0", 1), ("1,0", -1), ("3,0", 1)])
        a, b, c, d = points_of("0,0 1,0 2,0 3,0")
        self.assertEqual(judge_walk(heap, b, a, (b, a)), ("leaves", 0))
        self.assertEqual(judge_walk(heap, a, b, (a, b)), ("leaves", 1))
        self.assertEqual(judge_walk(heap, a, c, (a, c)), ("leaves", 0))
        self.assertEqual(judge_walk(heap, a, c, (a, b, c)), ("leaves", 1))
        self.assertEqual(judge_walk(heap, c, d, (c, d)), ("leaves", 0))
        self.assertEqual(judge_walk(heap, d, d, (d, d)), None)
        self.assertEqual(judge_walk(heap, b, b, (b,)), ("leaves", 0))
        self.assertEqual(judge_walk(heap, b, b, (b, b)), ("leaves", 0))

    def test_leaving_between_two_places(self):
        heap = ring()
        row = points_of("0,0 1/2,1/2 3,0 5/2,5/2 3/2,3 0,5/2")
        for p in row:
            for q in row:
                for r in points_of("1,1 2,1 2,3/2 3,3 1/2,3/2"):
                    value = (p, r, q)
                    firsts = [k for k in (0, 1) if not is_lit_on(heap, value[k], value[k + 1], False)]
                    told = ("leaves", firsts[0]) if firsts else None
                    self.assertEqual(judge_walk(heap, p, q, value), told, value)

    def test_leaving_at_the_last_place(self):
        heap = heap_told([(BIG, 1), ("3,3", -1)])
        p, q, r = points_of("0,0 3,3 1,2")
        self.assertEqual(judge_walk(heap, p, q, (p, q)), ("leaves", 1))
        self.assertEqual(judge_walk(heap, p, q, (p, r, q)), ("leaves", 2))
        self.assertEqual(judge_walk(heap, r, p, (r, q, p)), ("leaves", 1))

    def test_along_sides_and_through_corners(self):
        heap = heap_told([("0,0 1,0 1,1 0,1", 1), ("1,1 2,1 2,2 1,2", 1)])
        for texts, told in (
            ("0,0 2,2", None), ("0,0 1,0 1,2 2,2", None), ("0,0 1,0 1,1 1,2 2,2", None), ("0,1 1,1 2,2", None),
            ("0,1/2 2,3/2", None), ("0,1 1,2", ("leaves", 0)), ("1/2,1 1,3/2", ("leaves", 0)), ("0,1 2,1", None),
        ):
            value = tuple(points_of(texts))
            self.assertEqual(judge_walk(heap, value[0], value[-1], value), told, texts)

    def test_looks_that_change_but_are_not_0(self):
        heap = heap_told([("0,0 4,0", 1), ("1,0 2,0", -3), ("3,0", 5)])
        self.assertIsNone(judge_walk(heap, (0, 0, 1), (4, 0, 1), ((0, 0, 1), (4, 0, 1))))
        self.assertEqual(judge_walk(heap + heap_told([("1,0 2,0", 2)]), (0, 0, 1), (4, 0, 1), ((0, 0, 1), (4, 0, 1))), ("leaves", 0))
        self.assertIsNone(judge_walk(heap, (0, 0, 1), (0, 0, 1), ((0, 0, 1), (4, 0, 1), (0, 0, 1))))

    def test_all_kinds(self):
        for seed in range(6):
            dice = Dice(80 + seed)
            heap = dice.heap(5, 3, 1)
            row = [mean(cell[1]) for cell in told_cells(heap) if cell[2] != 0] or [(0, 0, 1)]
            for _ in range(25):
                value = tuple(row[dice.throw(0, len(row) - 1)] for _ in range(dice.throw(1, 4)))
                firsts = [k for k, p in enumerate(value[:-1]) if not is_lit_on(heap, p, value[k + 1], False)]
                told = ("leaves", firsts[0]) if firsts else None
                if look_told(heap, value[-1]) != 0:
                    self.assertEqual(judge_walk(heap, value[0], value[-1], value), told)

    def test_many_places(self):
        row = [(k % 7, 0, 1) for k in range(490)]
        self.assertIsNone(judge_walk(heap_told([("0,0 7,0", 1)]), row[0], row[-1], tuple(row)))
        self.assertEqual(judge_walk(heap_told([("0,0 5,0", 1)]), row[0], row[-1], tuple(row)), ("leaves", 5))


if __name__ == "__main__":
    unittest.main()
