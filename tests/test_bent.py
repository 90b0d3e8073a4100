"""[6.4] and [6.5]: bends, heaps made of them, one plate, parts of plates, stretches."""

import unittest
from fractions import Fraction

from plateheaps.bent import bends, bent_heap, judge_bends, one_plate, parted, stretches
from plateheaps.directions import back, quarter
from plateheaps.errors import NoUndoing, TooLong
from plateheaps.heaps import Heap, look
from plateheaps.laying import inside, mirror, put
from plateheaps.places import scaled
from plateheaps.plates import hull, is_plate, sides
from plateheaps.products import put_together
from plateheaps.tables import table
from plateheaps.unlikes import are_alike
from support import (
    Dice, along, alike_pairs, as_fraction, as_place, at, great_values, grid, heap_told, odd_numbers, odd_values,
    points_of, round_sorted, small_directions, some_heaps, told_arcs, told_table, twelve_corners, weights_at, worth,
    zoo,
)

ORIGIN = (0, 0, 1)


def plates():
    return list(zoo().values()) + [twelve_corners()]


def once(plate):
    return Heap([(plate, 1)])


def undone_heap(plate):
    """Return the heap that takes back a plate, as the document tells it."""
    sign = -1 if len(plate) == 2 else 1
    return Heap([(part, sign * weight) for part, weight in inside(mirror(plate))])


def length_told(plate, u):
    """Return the length of the side with the normal u, measured in lengths of u, 0 if there is none."""
    for normal, p, q in sides(plate):
        if normal == u:
            x, y = at(q)[0] - at(p)[0], at(q)[1] - at(p)[1]
            return x / -u[1] if u[1] else y / u[0]
    return Fraction(0)


def walked(start, moves):
    """Return the place to which moves lead."""
    x, y = at(start)
    for u, length in moves:
        x, y = x - worth(length) * u[1], y + worth(length) * u[0]
    return as_place(x, y)


def told_bends(one, other):
    """Return the bends of a plate with another one taken back."""
    found = []
    for u in round_sorted([u for plate in (one, other) for u, _, _ in sides(plate)]):
        length = length_told(one, u) - length_told(other, u)
        if length:
            found.append((u, as_fraction(length)))
    first, second = corner_behind(one), corner_behind(other)
    return (1, as_place(at(first)[0] - at(second)[0], at(first)[1] - at(second)[1]), found)


def corner_behind(plate):
    """Return the farthest corner just behind (1, 0): the rightmost one, the highest of these."""
    return max(plate, key=at)


def thrown_bends(seed):
    """Return bends of at most eight moves."""
    dice = Dice(seed)
    told = {}
    for _ in range(dice.throw(0, 3)):
        u = small_directions()[dice.throw(0, 31)]
        length = Fraction(dice.throw(1, 5), dice.throw(1, 3)) * (-1) ** dice.throw(0, 1)
        told[u] = told.get(u, 0) + length
        # The two moves along the axes lead home.
        x, y = length * u[1], -length * u[0]
        for v, more in (((1, 0), y), ((0, 1), -x)):
            sign = dice.throw(0, 1)
            v, more = (v, more) if sign else (back(v), -more)
            told[v] = told.get(v, 0) + more
    moves = [(u, as_fraction(told[u])) for u in round_sorted(list(told)) if told[u]]
    return (1 - 2 * dice.throw(0, 1), dice.place(4, 3), moves)


class Bends(unittest.TestCase):
    def test_plates(self):
        for plate in plates():
            sign, place, moves = bends(once(plate))
            self.assertEqual((sign, place), (1, corner_behind(plate)))
            self.assertEqual(moves, [(u, as_fraction(length_told(plate, u))) for u in round_sorted(
                [u for u, _, _ in sides(plate)])])
            self.assertEqual(bends(-1 * once(plate)), (-1, place, moves))

    def test_plates_with_others_taken_back(self):
        for one in plates():
            for other in plates():
                heap = put_together(once(one), undone_heap(other))
                self.assertEqual(bends(heap), told_bends(one, other))

    def test_just_these(self):
        self.assertEqual(bends(heap_told([("1/2,3", -1)])), (-1, (1, 6, 2), []))
        self.assertEqual(bends(heap_told([("0,0 0,2", 1)])), (1, (0, 2, 1), [((1, 0), (2, 1)), ((-1, 0), (2, 1))]))
        self.assertEqual(bends(heap_told([("0,0 2,4", 1)])), (1, (2, 4, 1), [((-2, 1), (2, 1)), ((2, -1), (2, 1))]))
        self.assertEqual(bends(heap_told([("0,0 1,1/3", -1)])), (
            -1, (3, 1, 3), [((-1, 3), (1, 3)), ((1, -3), (1, 3))]))

    def test_the_moves_lead_round(self):
        for seed in range(40):
            value = bends(bent_heap(thrown_bends(seed)))
            self.assertEqual(walked(ORIGIN, value[2]), ORIGIN)

    def test_along_the_arcs(self):
        for seed in range(40):
            heap = bent_heap(thrown_bends(seed))
            sign, place, moves = bends(heap)
            arcs = told_arcs(table(heap))
            self.assertEqual([weight for _, far in arcs for _, weight in far], [sign] * len(arcs))
            behind = 0 if moves and moves[0][0] == (1, 0) else -1
            self.assertEqual(arcs[behind][1][0][0], place)
            for k, move in enumerate(moves):
                self.assertEqual(walked(arcs[k - 1][1][0][0], [move]), arcs[k][1][0][0])

    def test_alike_heaps_have_one(self):
        flat = heap_told([("0,0 1,0", 1), ("1,0 2,0", 1), ("1,0", -1)])
        self.assertEqual(bends(flat), bends(heap_told([("0,0 2,0", 1)])))
        for heap in [one for pair in alike_pairs()[1:] for one in pair]:
            with self.assertRaises(NoUndoing):
                bends(heap)

    def test_what_cannot_be_taken_back(self):
        for heap in some_heaps():
            wrong = [u for u, far in told_arcs(told_table(heap)) if len(far) != 1 or far[0][1] not in (1, -1)]
            if wrong:
                with self.assertRaises(NoUndoing) as caught:
                    bends(heap)
                self.assertEqual(caught.exception.direction, wrong[0])

    def test_new_lists(self):
        heap = once(zoo()["five"])
        bends(heap)[2].clear()
        self.assertIs(type(bends(heap)[2]), list)
        self.assertEqual(len(bends(heap)[2]), 5)


HOME = (1, (1, 2, 3), [((0, 1), (1, 2)), ((0, -1), (1, 2))])


class Judged(unittest.TestCase):
    def test_bends(self):
        for seed in range(60):
            sign, place, moves = thrown_bends(seed)
            self.assertIsNone(judge_bends((sign, place, moves)))
            self.assertIsNone(judge_bends((sign, place, tuple(moves))))
        for value in (HOME, (-1, ORIGIN, []), (1, ORIGIN, ())):
            self.assertIsNone(judge_bends(value))

    def test_wrong_parts(self):
        for value in odd_values() + great_values():
            self.assertEqual(judge_bends(value), ("form",), repr(value)[:60])
            if value not in (1, -1) or value is True:
                self.assertEqual(judge_bends((value,) + HOME[1:]), ("form",), repr(value)[:60])
            self.assertEqual(judge_bends((1, value, HOME[2])), ("form",), repr(value)[:60])
            if value not in ([], ()) or isinstance(value, dict):
                self.assertEqual(judge_bends(HOME[:2] + (value,)), ("form",), repr(value)[:60])
            self.assertEqual(judge_bends(HOME[:2] + ([value],)), ("form",), repr(value)[:60])
            if value != (10 ** 40 - 1, 1):
                self.assertEqual(judge_bends(HOME[:2] + ([((0, 1), value)],)), ("form",), repr(value)[:60])
                self.assertEqual(judge_bends(HOME[:2] + ([(value, (1, 2))],)), ("form",), repr(value)[:60])

    def test_the_tuple(self):
        for value in (list(HOME), HOME[:2], HOME + (1,), (HOME,), (2,) + HOME[1:], (0,) + HOME[1:], (True,) + HOME[1:]):
            self.assertEqual(judge_bends(value), ("form",))
        for wrong in odd_numbers():
            self.assertEqual(judge_bends((wrong,) + HOME[1:]), ("form",))

    def test_the_place(self):
        for p in ((2, 2, 2), (0, 0, 0), (0, 0, -1), (0, 0), [0, 0, 1], (0, 0, True)):
            self.assertEqual(judge_bends((1, p, [])), ("form",))

    def test_moves(self):
        up, down = ((0, 1), (1, 2)), ((0, -1), (1, 2))
        for moves in ([down, up], [up, up, down], [up, down, down], [list(up), down], [up, down + (1,)], [up[:1], down],
                      [up, ((0, -1), (2, 4))], [up, ((0, -1), (0, 1))], [up, ((0, -2), (1, 2))], {up: down}, "ab",
                      [up, ((0, -1), 1)], [up, ((0, -1), (1, True))], [((0, True), (1, 2)), down], [up, [(0, -1), (1, 2)]]):
            self.assertEqual(judge_bends((1, ORIGIN, moves)), ("form",), moves)
            if isinstance(moves, list):
                self.assertEqual(judge_bends((1, ORIGIN, tuple(moves))), ("form",), moves)

    def test_open(self):
        self.assertEqual(judge_bends((1, (5, 5, 1), [((0, 1), (1, 1))])), ("open", (-1, 0, 1)))
        self.assertEqual(judge_bends((1, (5, 5, 1), (((1, 0), (1, 3)), ((0, 1), (1, 2))))), ("open", (-3, 2, 6)))
        self.assertEqual(judge_bends((-1, ORIGIN, [((0, 1), (1, 2)), ((0, -1), (-1, 2))])), ("open", (-1, 0, 1)))
        for seed in range(40):
            sign, place, moves = thrown_bends(seed)
            for k in range(len(moves)):
                left = moves[:k] + moves[k + 1:]
                self.assertEqual(judge_bends((sign, place, left)), ("open", walked(ORIGIN, left)))

    def test_many_moves(self):
        n = 10 ** 39
        moves = [((n - k, 2 * k + 1), (1, n + k)) for k in range(300)]
        moves = [move for move in moves if judge_bends((1, ORIGIN, [move]))[0] == "open"]
        self.assertGreater(len(moves), 50)
        self.assertEqual(judge_bends((1, ORIGIN, moves)), ("open", walked(ORIGIN, moves)))

    def test_what_is_passed_stays(self):
        moves = [((0, 1), (1, 1)), ((0, -1), (1, 1))]
        judge_bends((1, ORIGIN, moves))
        bent_heap((1, ORIGIN, moves))
        self.assertEqual(moves, [((0, 1), (1, 1)), ((0, -1), (1, 1))])


class BentHeaps(unittest.TestCase):
    def test_with_these_bends(self):
        for seed in range(150):
            value = thrown_bends(seed)
            made = bent_heap(value)
            self.assertLessEqual(len(made), 2000)
            self.assertEqual(bends(made), value)
            self.assertEqual(bent_heap(value[:2] + (tuple(value[2]),)), made)

    def test_the_farthest_places(self):
        for seed in range(20):
            sign, place, moves = thrown_bends(seed)
            heap = bent_heap((sign, place, moves))
            normals = [u for plate, _ in heap.rows() for u, _, _ in sides(plate)]
            for u in [v for v in small_directions() if v not in normals]:
                far = weights_at(heap, u)
                self.assertEqual(list(far.values()), [sign])

    def test_plates_again(self):
        for plate in plates():
            self.assertTrue(are_alike(bent_heap(bends(once(plate))), once(plate)))

    def test_forward_and_backward(self):
        self.assertEqual(bent_heap((1, (3, 0, 1), [])), heap_told([("3,0", 1)]))
        self.assertEqual(bent_heap((-1, (3, 0, 1), ())), heap_told([("3,0", -1)]))
        hollow = bent_heap((1, (-1, 0, 1), [((0, 1), (-1, 1)), ((0, -1), (-1, 1))]))
        self.assertTrue(are_alike(hollow, heap_told([("-1,0 0,0", -1), ("-1,0", 1), ("0,0", 1)])))
        self.assertEqual([look(hollow, p) for p in points_of("-1,0 -1/2,0 0,0 1/2,0")], [0, -1, 0, 0])

    def test_eight_moves_and_more(self):
        for one in (twelve_corners(), zoo()["eight"]):
            for other in (zoo()["eight"], mirror(twelve_corners()), zoo()["slant"]):
                value = told_bends(one, other)
                self.assertEqual(bends(bent_heap(value)), value)


class OnePlate(unittest.TestCase):
    def test_plates(self):
        for plate in plates():
            self.assertEqual(one_plate(once(plate)), plate)
            self.assertIsNone(one_plate(-1 * once(plate)))
            self.assertIsNone(one_plate(2 * once(plate)))

    def test_told_by_other_rows(self):
        nothing = heap_told([("-1,0 1,0", 1), ("-1,0 0,0", -1), ("0,0 1,0", -1), ("0,0", 1)])
        for plate in plates():
            self.assertEqual(one_plate(once(plate) + nothing), plate)
        joined = heap_told([("0,0 1,0 1,1 0,1", 1), ("1,0 2,0 2,1 1,1", 1), ("1,0 1,1", -1)])
        self.assertEqual(one_plate(joined), tuple(points_of("0,0 2,0 2,1 0,1")))

    def test_none(self):
        self.assertIsNone(one_plate(Heap([])))
        self.assertIsNone(one_plate(heap_told([("0,0", 1), ("1,0", 1)])))
        self.assertIsNone(one_plate(heap_told([("-1,0 0,0", -1), ("-1,0", 1), ("0,0", 1)])))
        for heap in some_heaps()[4:]:
            self.assertIsNone(one_plate(heap))

    def test_bent_heaps(self):
        found = 0
        for seed in range(80):
            sign, place, moves = thrown_bends(seed)
            plate = one_plate(bent_heap((sign, place, moves)))
            if sign == -1 or any(length[0] < 0 for _, length in moves):
                self.assertIsNone(plate)
            else:
                found += 1
                self.assertTrue(is_plate(plate))
                self.assertEqual(bends(once(plate)), (sign, place, moves))
        self.assertGreater(found, 5)

    def test_plates_put_together(self):
        for one in plates():
            for other in plates():
                self.assertEqual(one_plate(put_together(once(one), once(other))), put(one, other))


class Parted(unittest.TestCase):
    def test_put_together_again(self):
        for one in plates():
            for other in plates():
                self.assertEqual(parted(one, put(one, other)), other)

    def test_too_long(self):
        for one in plates():
            for other in plates():
                long = [u for u in round_sorted([u for u, _, _ in sides(one)]) if length_told(one, u) > length_told(other, u)]
                if long:
                    with self.assertRaises(TooLong) as caught:
                        parted(one, other)
                    self.assertEqual(caught.exception.direction, long[0])
                else:
                    self.assertEqual(put(one, parted(one, other)), other)

    def test_just_these(self):
        flat, box = zoo()["flat"], tuple(points_of("0,0 2,0 2,2 0,2"))
        self.assertEqual(parted(flat, box), ((0, 0, 1), (0, 2, 1)))
        self.assertEqual(parted(box, box), (ORIGIN,))
        self.assertEqual(parted((ORIGIN,), box), box)
        self.assertEqual(parted(((1, 1, 2),), (ORIGIN,)), ((-1, -1, 2),))
        self.assertEqual(parted(((0, 0, 1), (1, 0, 1)), flat), ((0, 0, 1), (1, 0, 1)))
        for one, other, told in ((flat, (ORIGIN,), (0, 1)), (box, flat, (1, 0)), (zoo()["upright"], flat, (1, 0)),
                                 (flat, zoo()["upright"], (0, 1)), (zoo()["tri"], box, (1, 1))):
            with self.assertRaises(TooLong) as caught:
                parted(one, other)
            self.assertEqual(caught.exception.direction, told)

    def test_a_little_longer(self):
        n = 10 ** 9
        with self.assertRaises(TooLong):
            parted(((0, 0, 1), (n - 1, 0, n - 2)), ((0, 0, 1), (n, 0, n - 1)))
        self.assertEqual(len(parted(((0, 0, 1), (n, 0, n - 1)), ((0, 0, 1), (n - 1, 0, n - 2)))), 2)


def put_all(place, parts):
    made = (place,)
    for part in parts:
        made = put(made, part)
    return made


class Stretches(unittest.TestCase):
    def test_put_together_again(self):
        for seed in range(40):
            dice = Dice(seed)
            parts = [hull([ORIGIN, p]) for p in [dice.place(4, 3) for _ in range(dice.throw(0, 5))] if p != ORIGIN]
            plate = put_all(dice.place(3, 2), parts)
            word, place, found = stretches(plate)
            self.assertEqual((word, place), ("stretches", plate[0]))
            self.assertEqual(put_all(place, found), plate)
            self.assertEqual([plate for plate, _ in Heap([(part, 1) for part in found]).rows()], found)
            for part in found:
                self.assertEqual((len(part), part[0]), (2, ORIGIN))
            slopes = {quarter(sides(part)[0][0]) for part in found}
            self.assertEqual(len(slopes | {back(u) for u in slopes}), 2 * len(found))

    def test_just_these(self):
        self.assertEqual(stretches(((1, 2, 3),)), ("stretches", (1, 2, 3), []))
        self.assertEqual(stretches(zoo()["upright"]), ("stretches", (1, -1, 1), [(ORIGIN, (0, 5, 2))]))
        self.assertEqual(stretches(zoo()["slant"]), ("stretches", (-1, -1, 1), [(ORIGIN, (3, 2, 1))]))
        self.assertEqual(stretches(zoo()["diamond"]), (
            "stretches", (-1, 1, 1), [(ORIGIN, (1, -1, 1)), (ORIGIN, (1, 1, 1))]))

    def test_unlike(self):
        found = 0
        for plate in plates():
            wrong = [u for u in round_sorted([u for u, _, _ in sides(plate)])
                     if length_told(plate, u) != length_told(plate, back(u))]
            if wrong:
                found += 1
                self.assertEqual(stretches(plate), ("unlike", wrong[0]))
            else:
                self.assertEqual(stretches(plate)[0], "stretches")
        self.assertGreater(found, 4)
        self.assertEqual(stretches(tuple(points_of("0,0 3,0 2,1 0,1"))), ("unlike", (1, 1)))

    def test_sides_with_back_normals_of_other_lengths(self):
        self.assertEqual(stretches(tuple(points_of("0,0 4,0 3,1 1,1"))), ("unlike", (1, 1)))
        self.assertEqual(stretches(tuple(points_of("0,0 3,0 3,1 2,2 0,2"))), ("unlike", (1, 0)))
        self.assertEqual(stretches(tuple(points_of("-1,0 0,-1 2,-1 2,0 1,1 -1,1"))), (
            "stretches", (-1, 0, 1), [(ORIGIN, (0, 1, 1)), (ORIGIN, (1, -1, 1)), (ORIGIN, (2, 0, 1))]))

    def test_new_lists(self):
        plate = zoo()["box"]
        found = stretches(plate)[2]
        self.assertIs(type(found), list)
        found.clear()
        self.assertEqual(len(stretches(plate)[2]), 2)


class Scaled(unittest.TestCase):
    def test_bends_of_scaled_plates(self):
        for plate in plates():
            half_as_large = hull([scaled(p, 1, 2) for p in plate])
            told = [(u, as_fraction(worth(length) / 2)) for u, length in bends(once(plate))[2]]
            self.assertEqual(bends(once(half_as_large))[2], told)

    def test_looks_of_bent_heaps(self):
        plate = zoo()["five"]
        heap = bent_heap(bends(once(plate)))
        self.assertEqual([look(heap, p) for p in grid()], [look(once(plate), p) for p in grid()])

    def test_heights_along_breaks(self):
        for seed in range(20):
            heap = bent_heap(thrown_bends(seed))
            for k, (u, _) in enumerate(bends(heap)[2]):
                arcs = told_arcs(table(heap))
                self.assertEqual(along(u, arcs[k - 1][1][0][0]), along(u, arcs[k][1][0][0]))


if __name__ == "__main__":
    unittest.main()
