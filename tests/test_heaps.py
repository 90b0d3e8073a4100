"""[3.1], [3.2] and [3.3]: heaps, looks, scaled, led and mirrored heaps."""

import unittest

from plateheaps.errors import BadRow
from plateheaps.halfplanes import half
from plateheaps.heaps import Heap, led_heap, look, mirrored, scaled_heap
from plateheaps.laying import inside, led_place
from plateheaps.overlays import cut_line
from plateheaps.places import scaled
from support import at, grid, is_in, odd_numbers, odd_values, points_of, zoo

TRI, POINT, FLAT = zoo()["tri"], zoo()["origin"], zoo()["flat"]


def menagerie():
    """Return a heap of all plates of the zoo, with weights from -7 on, none of them 0."""
    return Heap([(plate, k - 7 or 99) for k, plate in enumerate(zoo().values())])


def order_key(plate):
    return [at(p) for p in plate]


class Rows(unittest.TestCase):
    def test_ascending_by_the_plates(self):
        rows = menagerie().rows()
        self.assertEqual(len(rows), 16)
        self.assertEqual(rows, sorted(rows, key=lambda row: order_key(row[0])))
        self.assertEqual(dict(rows), {plate: k - 7 or 99 for k, plate in enumerate(zoo().values())})

    def test_a_plate_that_ends_comes_ahead_of_one_that_goes_on(self):
        rows = [(TRI, 1), (FLAT, 2), (POINT, 3)]
        self.assertEqual(Heap(rows).rows(), [(POINT, 3), (FLAT, 2), (TRI, 1)])
        square = tuple(points_of("0,0 2,0 2,2 0,2"))
        self.assertEqual([plate for plate, _ in Heap([(square, 1), (TRI, 1)]).rows()], [TRI, square])

    def test_fractions_stand_by_what_they_are(self):
        points = [(p,) for p in points_of("1/2,0 1/3,5 1/3,-5 -1/2,0 2/5,0 5/12,7")]
        found = [plate for plate, _ in Heap([(point, 1) for point in points]).rows()]
        self.assertEqual(found, sorted(points, key=order_key))

    def test_fractions_near_to_one_another(self):
        n = 10 ** 9 - 1
        points = [((1, 1, n),), ((1, 1, n - 1),), ((1, 2, n - 1),), ((n - 2, 0, n - 1),), ((n - 1, 0, n),)]
        for row in (points, points[::-1], points[2:] + points[:2]):
            self.assertEqual([plate for plate, _ in Heap([(point, 1) for point in row]).rows()], points)

    def test_weights_of_equal_plates_are_added(self):
        self.assertEqual(Heap([(TRI, 2), (POINT, 1), (TRI, -5)]).rows(), [(POINT, 1), (TRI, -3)])

    def test_what_comes_to_nothing_is_left_out(self):
        heap = Heap([(TRI, 2), (POINT, 0), (TRI, -2), (FLAT, 1)])
        self.assertEqual(heap.rows(), [(FLAT, 1)])
        self.assertEqual((len(heap), heap.weight(TRI), heap.weight(POINT)), (1, 0, 0))

    def test_no_rows(self):
        for empty in (Heap([]), Heap(()), Heap([(TRI, 0)])):
            self.assertEqual((empty.rows(), empty.total(), len(empty)), ([], 0, 0))

    def test_tuples_for_lists(self):
        self.assertEqual(Heap(((TRI, 1), (POINT, 2))), Heap([(TRI, 1), (POINT, 2)]))

    def test_total(self):
        self.assertEqual(menagerie().total(), sum(k - 7 or 99 for k in range(16)))
        self.assertEqual(Heap([(TRI, 10 ** 30), (FLAT, -1)]).total(), 10 ** 30 - 1)


class NoRows(unittest.TestCase):
    def wrong(self):
        plates = [value for value in odd_values() if value != ((1, 2, 1),)]
        plates += [TRI[::-1], TRI + TRI, list(TRI), TRI[1:] + TRI[:1]]
        rows = [(plate, 1) for plate in plates] + [(TRI, worth) for worth in odd_numbers()]
        return rows + odd_values() + [[TRI, 1], (TRI,), (TRI, 1, 1), (1, TRI), TRI, (FLAT[::-1], 1)]

    def test_the_number_of_the_entry(self):
        for k, row in enumerate(self.wrong()):
            with self.assertRaises(BadRow) as caught:
                Heap([(TRI, 1)] * (k % 3) + [row])
            self.assertEqual(caught.exception.number, k % 3, repr(row))

    def test_the_least_number(self):
        with self.assertRaises(BadRow) as caught:
            Heap([(TRI, 1), (TRI, None), None, (POINT, 1), (TRI, True)])
        self.assertEqual(caught.exception.number, 1)

    def test_weights_true_and_false(self):
        for worth in (True, False):
            with self.assertRaises(BadRow):
                Heap([(TRI, worth)])


class Weights(unittest.TestCase):
    def test_of_plates(self):
        for k, plate in enumerate(zoo().values()):
            self.assertEqual(menagerie().weight(plate), k - 7 or 99)
        self.assertEqual(menagerie().weight(tuple(points_of("7,7"))), 0)

    def test_of_any_value(self):
        for value in odd_values() + [menagerie(), (menagerie(),)]:
            self.assertEqual(menagerie().weight(value), 0, repr(value))

    def test_equal_but_no_plate(self):
        heap = Heap([(((0, 0, 1),), 5), (((1, 0, 1),), 6)])
        self.assertEqual(heap.weight(((0, 0, 1),)), 5)
        for value in (((0, 0, True),), ((False, 0, 1),), ((True, 0, 1),), ((1, False, 1),)):
            self.assertEqual(heap.weight(value), 0)


class Equality(unittest.TestCase):
    def test_equal_rows(self):
        self.assertTrue(Heap([(TRI, 1), (POINT, 2)]) == Heap([(POINT, 1), (TRI, 1), (POINT, 1)]))
        self.assertFalse(Heap([(TRI, 1), (POINT, 2)]) != Heap([(POINT, 2), (TRI, 1)]))
        self.assertFalse(Heap([(TRI, 1)]) == Heap([(TRI, 2)]))
        self.assertFalse(Heap([(TRI, 1)]) == Heap([(POINT, 1)]))
        self.assertTrue(Heap([(TRI, 1)]) != Heap([]))

    def test_nothing_else_is_equal(self):
        for heap in (Heap([]), Heap([(TRI, 1)])):
            for value in odd_values() + [heap.rows(), tuple(heap.rows()), dict(heap.rows()), 0, []]:
                self.assertIs(heap == value, False, repr(value))
                self.assertIs(value == heap, False, repr(value))
                self.assertIs(heap != value, True)

    def test_alike_but_unequal(self):
        whole = Heap([(FLAT, 1)])
        told = (("0,0 1,0", 1), ("1,0 2,0", 1), ("1,0", -1))
        parts = Heap([(tuple(points_of(text)), weight) for text, weight in told])
        self.assertFalse(whole == parts)
        self.assertEqual([look(whole, p) for p in grid()], [look(parts, p) for p in grid()])


class Sums(unittest.TestCase):
    def test_sums_and_differences(self):
        one, other = Heap([(TRI, 2), (POINT, 1)]), Heap([(TRI, -2), (FLAT, 3), (POINT, 1)])
        self.assertEqual((one + other).rows(), [(POINT, 2), (FLAT, 3)])
        self.assertEqual((one - other).rows(), [(FLAT, -3), (TRI, 4)])
        self.assertEqual((other - one).rows(), [(FLAT, 3), (TRI, -4)])
        self.assertEqual((menagerie() - menagerie()).rows(), [])
        self.assertEqual(menagerie() + Heap([]), menagerie())

    def test_times(self):
        heap = Heap([(TRI, 2), (POINT, -1)])
        for n in (0, 1, -1, 3, 10 ** 30):
            told = Heap([(TRI, 2 * n), (POINT, -n)])
            self.assertEqual(n * heap, told)
            self.assertEqual(heap * n, told)
        self.assertEqual(len(0 * heap), 0)

    def test_nothing_else_is_added_or_multiplied(self):
        heap = Heap([(TRI, 1)])
        for wrong in (None, 1, heap.rows(), "a"):
            with self.assertRaises(TypeError):
                heap + wrong
            with self.assertRaises(TypeError):
                heap - wrong
        for wrong in (None, True, heap, "a"):
            with self.assertRaises(TypeError):
                heap * wrong

    def test_looks_of_sums(self):
        one, other = menagerie(), Heap([(zoo()["wide"], 3), (TRI, -1)])
        for p in grid():
            self.assertEqual(look(one + other, p), look(one, p) + look(other, p))
            self.assertEqual(look(one - 2 * other, p), look(one, p) - 2 * look(other, p))

    def test_heaps_never_change(self):
        one, other = menagerie(), Heap([(TRI, 5)])
        before = one.rows(), other.rows()
        for made in (one + other, one - other, 3 * one, other * 0):
            made.rows().clear()
        self.assertEqual((one.rows(), other.rows()), before)


class NewLists(unittest.TestCase):
    def test_returned_rows(self):
        heap = menagerie()
        found = heap.rows()
        self.assertIs(type(found), list)
        self.assertIsNot(found, heap.rows())
        found.clear()
        self.assertEqual(len(heap.rows()), 16)
        self.assertEqual(len(heap), 16)

    def test_passed_rows(self):
        rows = [(TRI, 1), (POINT, 2)]
        heap = Heap(rows)
        rows.append((FLAT, 3))
        rows[0] = (FLAT, 7)
        self.assertEqual(heap.rows(), [(POINT, 2), (TRI, 1)])
        self.assertEqual(rows, [(FLAT, 7), (POINT, 2), (FLAT, 3)])


class Looks(unittest.TestCase):
    def test_sum_of_the_plates_that_have_the_place(self):
        heap = menagerie()
        for p in grid():
            told = sum(weight for plate, weight in heap.rows() if is_in(plate, p))
            self.assertEqual(look(heap, p), told)

    def test_a_plate_less_its_sides_more_its_corners(self):
        heap = Heap(inside(TRI))
        for p in grid():
            x, y = at(p)
            self.assertEqual(look(heap, p), int(x > 0 and y > 0 and x + y < 2))

    def test_no_rows(self):
        self.assertEqual(look(Heap([]), (0, 0, 1)), 0)


class Moved(unittest.TestCase):
    def test_scaled_heap(self):
        heap = menagerie()
        for m, n in ((1, 1), (3, 1), (1, 2), (4, 6)):
            made = scaled_heap(heap, m, n)
            self.assertEqual(made.total(), heap.total())
            self.assertEqual(len(made), len(heap))
            for p in grid():
                self.assertEqual(look(made, scaled(p, m, n)), look(heap, p))

    def test_scaled_by_nought(self):
        self.assertEqual(scaled_heap(menagerie(), 0, 3).rows(), [(POINT, menagerie().total())])
        self.assertEqual(scaled_heap(Heap([(TRI, 1), (POINT, -1)]), 0, 1).rows(), [])
        self.assertEqual(scaled_heap(Heap([]), 0, 1).rows(), [])

    def test_led_heap(self):
        heap = menagerie()
        turned = (0, -2, 2, 0, 1, 0, 3)
        made = led_heap(heap, turned)
        self.assertEqual(made.total(), heap.total())
        for p in grid():
            self.assertEqual(look(made, led_place(p, turned)), look(heap, p))

    def test_led_to_a_line_and_to_a_point(self):
        heap = menagerie()
        flat = led_heap(heap, (1, 0, 0, 0, 0, 0, 1))
        self.assertEqual(flat.total(), heap.total())
        for x in range(-8, 30):
            self.assertEqual(look(flat, scaled((x, 0, 1), 1, 4)), cut_line(heap, half(4, 0, x)).total())
        point = led_heap(heap, (0, 0, 0, 0, 3, 1, 2))
        self.assertEqual(point.rows(), [(((3, 1, 2),), heap.total())])

    def test_equal_plates_are_added(self):
        heap = Heap([(TRI, 2), (FLAT, 3), (zoo()["upright"], 1)])
        self.assertEqual(led_heap(heap, (1, 0, 0, 0, 0, 0, 1)).rows(), [(FLAT, 5), (((1, 0, 1),), 1)])
        self.assertEqual(led_heap(Heap([(TRI, 1), (FLAT, -1)]), (1, 0, 0, 0, 0, 0, 1)).rows(), [])

    def test_mirrored(self):
        heap = menagerie()
        made = mirrored(heap)
        self.assertEqual(mirrored(made), heap)
        self.assertEqual(made.total(), heap.total())
        for p in grid():
            self.assertEqual(look(made, (-p[0], -p[1], p[2])), look(heap, p))


if __name__ == "__main__":
    unittest.main()
