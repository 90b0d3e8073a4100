"""[9.3], [9.4], [9.5]: whole places, how their number grows, whole maps."""

import unittest
from fractions import Fraction
from math import ceil, floor

from plateheaps.counts import (
    columns, count_at, growth, growths, ladder, nth_place, places_ahead, whole_hull, whole_map, whole_places,
)
from plateheaps.errors import NotWhole, TooMany
from plateheaps.heaps import Heap, scaled_heap
from plateheaps.insides import inside_out
from plateheaps.kinds import is_number
from plateheaps.laying import is_map, led
from plateheaps.places import place
from plateheaps.plates import hull
from plateheaps.sizes import area
from support import (
    Dice, Unlike, alike_pairs, as_place, at, heap_told, is_in, look_told, points_of, some_heaps, twelve_corners, worth, zoo,
)


def whole_ones(plate):
    """Return all whole places of a plate, in order."""
    corners = [at(p) for p in plate]
    xs = range(floor(min(x for x, _ in corners)), ceil(max(x for x, _ in corners)) + 1)
    ys = range(floor(min(y for _, y in corners)), ceil(max(y for _, y in corners)) + 1)
    return [(x, y, 1) for x in xs for y in ys if is_in(plate, (x, y, 1))]


def plates():
    texts = ["-5/2,1/3 7/2,1/2 4,5 -1,9/2", "1/3,1/3 2/3,1/3 1/2,2/3", "0,1/2 9,1/2", "1/2,0 1/2,7", "3,-1/2 3,9/2",
             "1/3,0 1/3,1 2/3,1/2", "0,0 7,3 7,4", "-3,-3 5,5", "-7/2,-7/2 3/2,3/2", "1,1/2 1,2/3", "0,0 10,1 5,1"]
    found = [tuple(points_of(text)) for text in texts] + list(zoo().values()) + [twelve_corners()]
    return [hull(plate) for plate in found] + [Dice(500 + seed).plate(6, 3, 6) for seed in range(30)]


class Columns(unittest.TestCase):
    def test_by_all_places(self):
        for plate in plates():
            told = {}
            for x, y, _ in whole_ones(plate):
                told.setdefault(x, []).append(y)
            self.assertEqual(columns(plate), [(x, min(ys), max(ys)) for x, ys in sorted(told.items())], plate)

    def test_no_whole_place(self):
        self.assertEqual(columns(tuple(points_of("1/3,1/3 2/3,1/3 1/2,2/3"))), [])
        self.assertEqual(columns(tuple(points_of("0,1/2 9,1/2"))), [])
        self.assertEqual(columns(zoo()["point"]), [])
        self.assertEqual(columns(((2, 1, 2),)), [])

    def test_a_gap(self):
        self.assertEqual(columns(tuple(points_of("0,0 4,2"))), [(0, 0, 0), (2, 1, 1), (4, 2, 2)])

    def test_upright_stretches_and_points(self):
        self.assertEqual(columns(zoo()["upright"]), [(1, -1, 1)])
        self.assertEqual(columns(tuple(points_of("1/2,0 1/2,7"))), [])
        self.assertEqual(columns(((-3, 7, 1),)), [(-3, 7, 7)])

    def test_two_hundred_wide(self):
        plate = hull([(-100, -3, 1), (100, 10 ** 9 - 1, 1), (7, -(10 ** 9 - 1), 2)])
        told = columns(plate)
        self.assertEqual([told[0], told[-1], len(told)], [(-100, -3, -3), (100, 10 ** 9 - 1, 10 ** 9 - 1), 201])

    def test_a_new_list_each_time(self):
        columns(zoo()["box"]).clear()
        self.assertEqual(columns(zoo()["box"]), [(0, 0, 1), (1, 0, 1)])


class Ladders(unittest.TestCase):
    def test_all_small_ones(self):
        for n in (0, 1, 2, 5, 9):
            for a in range(-12, 13, 3):
                for b in range(-11, 12, 2):
                    for m in (1, 2, 3, 7, 12):
                        self.assertEqual(ladder(n, a, b, m), sum((a * i + b) // m for i in range(n)), (n, a, b, m))

    def test_longer_ones(self):
        dice = Dice(6)
        for _ in range(40):
            n, a, b, m = dice.throw(0, 400), dice.throw(-999, 999), dice.throw(-9999, 9999), dice.throw(1, 700)
            self.assertEqual(ladder(n, a, b, m), sum((a * i + b) // m for i in range(n)))

    def test_of_no_steps(self):
        self.assertEqual([ladder(0, 5, 7, 3), ladder(0, -5, -7, 1)], [0, 0])

    def test_a_hundred_figures(self):
        n, m = 10 ** 100 - 3, 10 ** 99 + 7
        self.assertEqual(ladder(n, m, -1, m), n * (n - 1) // 2 - n)
        self.assertEqual(ladder(n, 0, 7 * m + 1, m), 7 * n)
        # Pairs from both ends add up to whole multiples of m, less 1 where they are none.
        a, b = 3 ** 200, 5 ** 140
        both = ladder(n, a, b, m) + ladder(n, -a, -b, m)
        hits = both + n
        self.assertIn(hits, (0, 10, 11, 12))
        self.assertEqual(ladder(n + 1, a, b, m) - ladder(n, a, b, m), (a * n + b) // m)
        self.assertEqual(ladder(n, a + m, b, m) - ladder(n, a, b, m), n * (n - 1) // 2)
        self.assertEqual(ladder(n, a, b - 3 * m, m), ladder(n, a, b, m) - 3 * n)


class WholePlaces(unittest.TestCase):
    def test_plates(self):
        for plate in plates():
            self.assertEqual(whole_places(Heap([(plate, 3)])), 3 * len(whole_ones(plate)), plate)

    def test_sums_of_looks(self):
        for heap in some_heaps():
            told = {p: look_told(heap, p) for plate, _ in heap.rows() for p in whole_ones(plate)}
            self.assertEqual(whole_places(heap), sum(told.values()))
        self.assertEqual(whole_places(Heap([])), 0)

    def test_alike_heaps(self):
        for one, other in alike_pairs():
            self.assertEqual(whole_places(one), whole_places(other))

    def test_great_ones(self):
        n = 10 ** 40
        self.assertEqual(whole_places(Heap([(((0, 0, 1), (n, 0, 1), (n, n, 1), (0, n, 1)), 2)])), 2 * (n + 1) * (n + 1))
        self.assertEqual(whole_places(Heap([(((0, 0, 1), (n, 0, 1), (0, n, 1)), 1)])), (n + 1) * (n + 2) // 2)
        self.assertEqual(whole_places(Heap([(((-n, -3, 2), (n + 1, -3, 2)), 1)])), 0)
        self.assertEqual(whole_places(Heap([(((-n, -3, 1), (n, n, 1)), 1)])), 2)


class Order(unittest.TestCase):
    def test_places_ahead(self):
        for plate in plates()[:30]:
            ones = whole_ones(plate)
            x, y = at(plate[0])
            probes = ones + list(plate) + [as_place(floor(x) + Fraction(k, 2), floor(y) + Fraction(n, 3)) for k in range(-2, 9) for n in range(-4, 10, 3)]
            for p in probes:
                self.assertEqual(places_ahead(plate, p), len([q for q in ones if at(q) < at(p)]), (plate, p))

    def test_nth_place(self):
        for plate in plates():
            ones = whole_ones(plate)
            for n, p in enumerate(ones):
                self.assertEqual(nth_place(plate, n), p)
                self.assertEqual(places_ahead(plate, p), n)
            self.assertIsNone(nth_place(plate, len(ones)))
            self.assertIsNone(nth_place(plate, len(ones) + 10 ** 39))

    def test_any_value(self):
        box = zoo()["box"]
        for value in (None, True, False, "1", (), (1,), [], [1], {}, {1: 1}, -1, -4, -(10 ** 39), 4, Unlike, Heap([])):
            self.assertIsNone(nth_place(box, value), repr(value))
        self.assertEqual(nth_place(box, 1), (0, 1, 1))

    def test_great_ones(self):
        n = 10 ** 40
        plate = ((0, 0, 1), (n, 0, 1), (n, n, 1), (0, n, 1))
        for k in (0, 1, n, n + 1, n * n // 3, (n + 1) * (n + 1) - 1):
            told = (k // (n + 1), k % (n + 1), 1)
            self.assertEqual(nth_place(plate, k), told)
            self.assertEqual(places_ahead(plate, told), k)
        self.assertIsNone(nth_place(plate, (n + 1) * (n + 1)))


class WholeHulls(unittest.TestCase):
    def test_by_all_places(self):
        for plate in plates():
            ones = whole_ones(plate)
            self.assertEqual(whole_hull(plate), hull(ones) if ones else None, plate)


def whole_heaps():
    """Return heaps whose corners are whole."""
    told = zoo()
    names = ("origin", "flat", "tri", "box", "far", "diamond")
    found = [Heap([(told[name], 2)]) for name in names] + [Heap([(told[name], k - 3) for k, name in enumerate(names)])]
    found += [Heap([]), Heap([(twelve_corners(), -1)]), Heap([(tuple(points_of("0,0 6,4")), 1)]), inside_out(Heap([(told["tri"], 1)]))]
    return found + [Dice(600 + seed).heap(4, 6, 1) for seed in range(8)]


class Growth(unittest.TestCase):
    def test_it_counts(self):
        for heap in whole_heaps():
            a, b, c = growth(heap)
            self.assertEqual([a, c], [area(heap), (heap.total(), 1)])
            for k in range(1, 6):
                told = worth(a) * k * k + worth(b) * k + worth(c)
                self.assertEqual(whole_places(scaled_heap(heap, k, 1)), told)
                self.assertEqual(count_at((1, [growth(heap)]), k), told)

    def test_steps(self):
        for text, told in (
            ("0,0", ((0, 1), (0, 1), (1, 1))), ("0,0 6,4", ((0, 1), (2, 1), (1, 1))), ("0,0 0,5", ((0, 1), (5, 1), (1, 1))),
            ("0,0 1,0 0,1", ((1, 2), (3, 2), (1, 1))), ("0,0 4,0 0,6", ((12, 1), (6, 1), (1, 1))),
        ):
            self.assertEqual(growth(heap_told([(text, 1)])), told, text)
            self.assertEqual(growth(heap_told([(text, -2)])), tuple(as_fraction_times(s, -2) for s in told))
        self.assertEqual(growth(Heap([])), ((0, 1),) * 3)

    def test_not_whole(self):
        for rows, told in (
            ([("1/2,1", 1)], "1/2,1"), ([("0,0 1,1/2", 1)], "1,1/2"), ([("0,0 2,0 1/2,1/3", 1), ("0,1/4", 1)], "0,1/4"),
            ([("5,5", 1), ("3,1/2 3,2/3", -1), ("2,9/2 4,4", 1)], "2,9/2"), ([("3,1/2 3,2/3", 1)], "3,1/2"),
            ([("-1/3,7 1,1", 1), ("-1/2,9 0,0", 1)], "-1/2,9"),
        ):
            with self.assertRaises(NotWhole) as caught:
                growth(heap_told(rows))
            self.assertEqual(caught.exception.place, points_of(told)[0], rows)

    def test_of_alike_heaps_one_may_raise(self):
        one = heap_told([("0,0 1,0", 1)])
        other = heap_told([("0,0 1/2,0", 1), ("1/2,0 1,0", 1), ("1/2,0", -1)])
        self.assertEqual(growth(one), ((0, 1), (1, 1), (1, 1)))
        with self.assertRaises(NotWhole) as caught:
            growth(other)
        self.assertEqual(caught.exception.place, (1, 0, 2))


def as_fraction_times(s, n):
    worth_of = Fraction(s[0], s[1]) * n
    return (worth_of.numerator, worth_of.denominator)


class Growths(unittest.TestCase):
    def test_they_count(self):
        chosen = some_heaps() + [Dice(620 + seed).heap(3, 4, 3) for seed in range(5)] + whole_heaps()[:4]
        for heap in chosen:
            told = growths(heap)
            self.assertEqual(len(told[1]), told[0])
            self.assertIsInstance(told[1], list)
            for k in list(range(1, 9)) + [told[0], 2 * told[0] + 1, 61]:
                a, b, c = [worth(s) for s in told[1][k % told[0]]]
                many = whole_places(scaled_heap(heap, k, 1))
                self.assertEqual(a * k * k + b * k + c, many)
                self.assertEqual(count_at(told, k), many)

    def test_below_0_and_at_0(self):
        for heap in some_heaps() + whole_heaps():
            told = growths(heap)
            self.assertEqual(count_at(told, 0), heap.total())
            for k in (1, 2, 3, told[0] + 1):
                self.assertEqual(count_at(told, -k), whole_places(scaled_heap(inside_out(heap), k, 1)), k)

    def test_whole_heaps(self):
        for heap in whole_heaps():
            self.assertEqual(growths(heap), (1, [growth(heap)]))
            self.assertEqual(count_at((1, (growth(heap),)), -2), whole_places(scaled_heap(inside_out(heap), 2, 1)))

    def test_the_least_common_multiple(self):
        for rows, n in (
            ([], 1), ([("5,5", 1)], 1), ([("1/2,0", 1), ("1/3,0", 1)], 6), ([("1/4,1/6", 1)], 12), ([("1/60,0", 3)], 60),
            ([("1/4,0", 1), ("1/3,0", 1), ("1/5,0", 1)], 60), ([("0,0 1/2,0", 1), ("1/2,0 1,0", 1), ("1/2,0", -1)], 2),
        ):
            self.assertEqual(growths(heap_told(rows))[0], n, rows)

    def test_too_many_rests(self):
        self.assertEqual(len(growths(heap_told([("0,0 1/60,1/30 1/12,1/5", 1)]))[1]), 60)
        for rows in ([("1/61,0", 1)], [("1/4,0", 1), ("1/3,1/2 1/5,1", 1), ("1/7,0", 1)], [("1/8,0", 1), ("0,1/9", 1)]):
            with self.assertRaises(TooMany):
                growths(heap_told([(" ".join(sorted(text.split(), key=lambda w: Fraction(w.split(",")[0]))), n) for text, n in rows]))

    def test_hundred_figures(self):
        heap = heap_told([("0,0 1/2,0 0,1/2", 1)])
        k = 10 ** 100 - 1
        half = k // 2
        self.assertEqual(count_at(growths(heap), k), (half + 1) * (half + 2) // 2)
        self.assertEqual(count_at(growths(heap), -k), (half - 1) * half // 2)
        self.assertEqual(count_at(growths(heap), 3), 3)

    def test_new_lists_each_time(self):
        heap = heap_told([("0,0 1/2,0 0,1/2", 1)])
        growths(heap)[1].clear()
        self.assertEqual(len(growths(heap)[1]), 2)

    def test_forty_rows(self):
        heap = Heap([(Dice(700 + k).plate(1000, 5, 12), k + 1) for k in range(40)])
        told = growths(heap)
        for k in (1, 7, 59, 61):
            self.assertEqual(count_at(told, k), whole_places(scaled_heap(heap, k, 1)))


WHOLE_MAPS = (
    (1, 0, 0, 1, 0, 0, 1), (0, -1, 1, 0, 3, -2, 1), (2, 1, 1, 1, -7, 5, 1), (1, 0, 0, -1, 0, 0, 1), (3, 5, 1, 2, 1, 1, 1),
    (-13, 8, 8, -5, 4, 9, 1), (0, 1, 1, 0, 0, 0, 1), (-1, 0, 0, -1, 0, 0, 1), (34, 55, 21, 34, 0, -1, 1), (1, -9, 0, -1, 2, 2, 1),
)


def whole_plates():
    """Return plates with whole corners of all kinds."""
    told = zoo()
    found = [told[name] for name in ("origin", "flat", "tri", "box", "far", "diamond")] + [twelve_corners()]
    found += [tuple(points_of(text)) for text in ("0,0 6,4", "0,0 0,3", "2,-7 3,5", "0,0 3,0 0,2", "0,0 4,1 1,4 0,2", "-3,8")]
    found += [Dice(800 + seed).plate(7, 1, 7) for seed in range(20)]
    return found


class WholeMaps(unittest.TestCase):
    def check(self, one, other):
        found = whole_map(one, other)
        self.assertIsNotNone(found, (one, other))
        self.assertTrue(is_map(found))
        self.assertEqual(found[6], 1)
        self.assertIn(found[0] * found[3] - found[1] * found[2], (1, -1))
        self.assertEqual(led(one, found), other)

    def test_plates_led_by_whole_maps(self):
        for plate in whole_plates():
            for leading in WHOLE_MAPS:
                there = led(plate, leading)
                self.check(plate, there)
                self.check(there, plate)
                self.assertEqual(growth(Heap([(there, 1)])), growth(Heap([(plate, 1)])))

    def test_maps_that_mirror(self):
        one = tuple(points_of("0,0 3,0 0,2"))
        self.check(one, led(one, (1, 0, 0, -1, 0, 0, 1)))
        lop = tuple(points_of("0,0 4,0 5,2 1,1"))
        self.check(hull(lop), led(hull(lop), (0, 1, 1, 0, 0, 0, 1)))

    def test_points_and_stretches(self):
        self.check(((3, 4, 1),), ((-7, 0, 1),))
        self.check(tuple(points_of("0,0 6,4")), tuple(points_of("-1,5 -1,7")))
        self.assertIsNone(whole_map(tuple(points_of("0,0 6,4")), tuple(points_of("0,0 3,2"))))
        self.assertIsNone(whole_map(tuple(points_of("0,0 1,0")), tuple(points_of("0,0 0,2"))))

    def test_unlike_numbers_of_corners(self):
        for one, other in (("0,0", "0,0 1,0"), ("0,0 1,0", "0,0 1,0 0,1"), ("0,0 2,0 0,1", "0,0 1,0 1,1 0,1")):
            self.assertIsNone(whole_map(tuple(points_of(one)), tuple(points_of(other))))
            self.assertIsNone(whole_map(tuple(points_of(other)), tuple(points_of(one))))

    def test_of_one_growth_but_none_leads(self):
        one, other = hull(points_of("0,0 1,0 6,7")), hull(points_of("0,0 1,0 3,7"))
        self.assertEqual(growth(Heap([(one, 1)])), growth(Heap([(other, 1)])))
        self.assertEqual([whole_map(one, other), whole_map(other, one)], [None, None])
        self.check(hull(points_of("0,0 1,0 2,5")), hull(points_of("0,0 1,0 3,5")))

    def test_of_unlike_areas(self):
        self.assertIsNone(whole_map(hull(points_of("0,0 1,0 0,1")), hull(points_of("0,0 2,0 0,1"))))
        self.assertIsNone(whole_map(hull(points_of("0,0 2,0 0,2")), hull(points_of("0,0 1,0 0,1"))))

    def test_all_pairs(self):
        chosen = [plate for plate in whole_plates() if len(plate) == 3 or len(plate) == 4]
        for one in chosen:
            for other in chosen:
                self.assertEqual(whole_map(one, other) is not None, leads_somehow(one, other), (one, other))

    def test_not_whole_ahead_of_all_else(self):
        whole, half, third = ((0, 0, 1),), tuple(points_of("0,0 1/2,1 1/2,3/2")), tuple(points_of("-1/3,0 5,5"))
        for one, other, told in ((whole, half, "1/2,1"), (half, whole, "1/2,1"), (half, third, "1/2,1"), (third, half, "-1/3,0")):
            with self.assertRaises(NotWhole) as caught:
                whole_map(hull(one), hull(other))
            self.assertEqual(caught.exception.place, points_of(told)[0])


def leads_somehow(one, other):
    """Tell whether a map of whole numbers leads the corners of one to those of other, in either order."""
    if len(one) != len(other):
        return False
    a, b, c = [at(p) for p in one[:3]]
    down = (b[0] - a[0]) * (c[1] - a[1]) - (b[1] - a[1]) * (c[0] - a[0])
    for turned in (other, other[::-1]):
        for k in range(len(turned)):
            row = [at(p) for p in turned[k:] + turned[:k]]
            numbers = []
            for i in (0, 1):
                p, q = row[1][i] - row[0][i], row[2][i] - row[0][i]
                numbers += [Fraction(p * (c[1] - a[1]) - q * (b[1] - a[1]), down), Fraction(q * (b[0] - a[0]) - p * (c[0] - a[0]), down)]
            if any(n.denominator != 1 for n in numbers) or abs(numbers[0] * numbers[3] - numbers[1] * numbers[2]) != 1:
                continue
            leading = [int(n) for n in numbers]
            moved = [(leading[0] * x + leading[1] * y, leading[2] * x + leading[3] * y) for x, y in map(at, one)]
            shift = (row[0][0] - moved[0][0], row[0][1] - moved[0][1])
            if {(x + shift[0], y + shift[1]) for x, y in moved} == {at(p) for p in other}:
                return True
    return False


class Kinds(unittest.TestCase):
    def test_numbers_are_integers(self):
        for value in (ladder(3, 1, 1, 2), whole_places(some_heaps()[4]), places_ahead(zoo()["box"], (1, 1, 1)), count_at((1, [((1, 2), (3, 2), (1, 1))]), 2)):
            self.assertTrue(is_number(value))

    def test_places_are_whole(self):
        self.assertEqual(nth_place(zoo()["wide"], 2), place(*nth_place(zoo()["wide"], 2)))


if __name__ == "__main__":
    unittest.main()
