"""[4.6] and [4.7]: rounds."""

import unittest

from plateheaps.directions import back, between, comes_ahead, in_arc
from plateheaps.errors import BadRow
from plateheaps.rounds import added_rounds, judge_round, round_at, round_of, round_sum, times_round
from support import Dice, great_values, odd_numbers, odd_values, small_directions

ROUND = small_directions()


def still(w):
    """Return the round of the function that is w in all directions."""
    return (((1, 0), w, w),)


def thrown_rows(seed, many):
    dice = Dice(seed)
    found = []
    for _ in range(many):
        u, v = ROUND[dice.throw(0, 31)], ROUND[dice.throw(0, 31)]
        found.append((None, None, dice.throw(-2, 2)) if dice.throw(0, 5) == 0 else (u, v, dice.throw(-2, 2)))
    return found


def told_rows():
    """Return lists of rows of all kinds."""
    found = [[], [(None, None, 3)], [((1, 0), (1, 0), 2)], [((0, 1), (0, 1), -1)], [((0, 1), (1, 0), 1)]]
    found += [[((1, 0), (0, 1), 1)], [((0, -1), (0, 1), 1)], [((0, -1), (1, 0), 1)], [((1, -1), (1, -3), 2)]]
    found += [[((1, 0), (-1, 0), 1), ((-1, 0), (1, 0), 1)], [((1, 0), (0, 1), 1), ((1, 0), (0, 1), -1)]]
    found += [[((2, 1), (1, 2), 1), (None, None, -1)], [((1, 1), (1, 0), 0)], [((1, 0), (0, 1), 1), ((0, 1), (-1, 1), 1)]]
    return found + [thrown_rows(seed, seed % 7 + 1) for seed in range(20)]


def value_in(rows, w):
    """Return the value of rows at a direction, as [4.7] tells it."""
    found = 0
    for u, v, weight in rows:
        if u is None or w in (u, v) or (u != v and in_arc(u, v, w)):
            found += weight
    return found


def probes():
    """Return directions so many that between any two of ROUND there is one."""
    return ROUND + [between(u, v) for u, v in zip(ROUND, ROUND[1:] + ROUND[:1])]


class Judged(unittest.TestCase):
    def test_rounds(self):
        for value in (still(0), still(-7), (((0, 1), 1, 0),), (((1, 0), 1, 0),), (((1, 0), 0, 1),),
                      (((1, 0), 1, 1), ((0, 1), 1, 0)), (((0, 1), 0, 1), ((0, -1), 0, 0)), (((1, 1), 1, 1), ((-1, 0), 0, 0))):
            self.assertIsNone(judge_round(value), value)

    def test_great_values(self):
        for value in great_values():
            self.assertEqual(judge_round(value), ("form",), repr(value)[:50])
            self.assertEqual(judge_round((((1, 0), 1, 0), value)), ("form",))

    def test_no_tuple_of_entries(self):
        entry, end = ((1, 0), 1, 1), ((0, 1), 1, 0)
        for value in odd_values():
            self.assertEqual(judge_round(value), ("form",), repr(value))
            self.assertEqual(judge_round((entry, value, end)), ("form",), repr(value))
        for value in ([entry, end], (list(entry), end), (([1, 0], 1, 1), end), (entry, end[:2]), (entry + (0,), end)):
            self.assertEqual(judge_round(value), ("form",))
        for u in ((0, 0), (2, 0), (2, 2), (True, 0), (1, False), 1, (1,), (1, 0, 1)):
            self.assertEqual(judge_round(((u, 1, 0),)), ("form",), u)
        for wrong in odd_numbers():
            self.assertEqual(judge_round((((1, 0), wrong, 0),)), ("form",), repr(wrong))
            self.assertEqual(judge_round((((1, 0), 1, wrong),)), ("form",), repr(wrong))

    def test_true_for_one_in_the_still_round(self):
        for value in ((((True, 0), 1, 1),), (((1, False), 1, 1),), (((1, 0), True, True),), (((1, 0), 1, True),)):
            self.assertEqual(judge_round(value), ("form",))

    def test_order(self):
        for k, u in enumerate(ROUND):
            for j, v in enumerate(ROUND):
                told = None if k < j else ("order", 1)
                self.assertEqual(judge_round(((u, 1, 2), (v, 3, 4))), told)
        self.assertEqual(judge_round((((1, 0), 1, 2), ((0, -1), 3, 4), ((0, 1), 3, 4), ((1, 1), 1, 1))), ("order", 2))
        self.assertEqual(judge_round((((0, 1), 1, 2), ((-1, 0), 3, 4), ((-1, 0), 5, 6))), ("order", 2))

    def test_nothing_changes(self):
        self.assertEqual(judge_round((((0, 1), 1, 1),)), ("same", 0))
        self.assertEqual(judge_round((((-1, 0), 0, 0),)), ("same", 0))
        self.assertEqual(judge_round((((1, 0), 2, 2), ((0, 1), 3, 2))), ("same", 0))
        self.assertEqual(judge_round((((1, 0), 2, 3), ((0, 1), 3, 3), ((-1, 0), 3, 3))), ("same", 1))
        self.assertEqual(judge_round((((1, 0), 2, 2), ((0, 1), 2, 2))), ("same", 0))
        self.assertEqual(judge_round((((1, 1), 2, 3), ((-1, 0), 3, 2), ((0, -1), 2, 2))), ("same", 2))

    def test_the_first_against_the_last(self):
        self.assertEqual(judge_round((((0, 1), 5, 5), ((0, -1), 4, 5))), ("same", 0))
        self.assertIsNone(judge_round((((0, 1), 5, 5), ((0, -1), 4, 4))))
        self.assertIsNone(judge_round((((0, 1), 0, 1), ((0, -1), 0, 0))))

    def test_the_order_of_faults(self):
        self.assertEqual(judge_round((((0, 1), 1, 1), ((1, 0), 1, 1), None)), ("form",))
        self.assertEqual(judge_round((((0, 1), 1, 1), ((-1, 0), 1, 1), ((1, 0), 1, 1))), ("order", 2))


class Made(unittest.TestCase):
    def test_values(self):
        for rows in told_rows():
            made = round_of(rows)
            self.assertIsNone(judge_round(made), rows)
            for u in probes():
                self.assertEqual(round_at(made, u), value_in(rows, u), (rows, u))
            self.assertEqual(round_of(tuple(rows[::-1])), made)

    def test_just_these(self):
        self.assertEqual(round_of([]), still(0))
        self.assertEqual(round_of([(None, None, -4)]), still(-4))
        self.assertEqual(round_of([((0, 1), (0, 1), 1)]), (((0, 1), 1, 0),))
        self.assertEqual(round_of([((1, 0), (1, 0), 1)]), (((1, 0), 1, 0),))
        self.assertEqual(round_of([((0, 1), (1, 0), 1)]), (((1, 0), 1, 0), ((0, 1), 1, 1)))
        self.assertEqual(round_of([((0, -1), (0, 1), 1)]), (((0, 1), 1, 0), ((0, -1), 1, 1)))
        self.assertEqual(round_of([((1, 0), (-1, 0), 1), ((-1, 0), (1, 0), 1)]), (((1, 0), 2, 1), ((-1, 0), 2, 1)))
        self.assertEqual(round_of([((1, 1), (0, 1), 1), ((1, 1), (0, 1), -1), (None, None, 2)]), still(2))
        self.assertEqual(round_of([((0, 1), (1, 0), 1), ((1, 0), (0, 1), 1), ((1, 0), (1, 0), -1)]), (((0, 1), 2, 1),))

    def test_opposite_ends(self):
        for u in ROUND:
            made = round_of([(u, back(u), 1)])
            self.assertEqual([round_at(made, w) for w in (u, back(u), between(u, back(u)), between(back(u), u))], [1, 1, 1, 0])

    def test_directions_near_to_one_another(self):
        n = 10 ** 9
        near = [(1, 0), (n, 1), (n - 1, 1), (n, n - 1), (1, n), (0, 1), (-1, n), (-1, n - 1), (-n, 1), (-1, 0)]
        near += [(-n, -1), (-n + 1, -1), (-1, -n), (0, -1), (1, -n), (1, -n + 1), (n - 1, -1), (n, -1)]
        made = round_of([(u, u, 1) for u in near[::-1]])
        self.assertEqual([u for u, _, _ in made], near)

    def test_sixty_rows(self):
        rows = [(u, v, k + 1) for k, (u, v) in enumerate(zip(ROUND, ROUND[5:] + ROUND[:5]))]
        rows = (rows + [(v, u, k) for u, v, k in rows])[:60]
        made = round_of(rows)
        self.assertEqual([round_at(made, u) for u in probes()], [value_in(rows, u) for u in probes()])

    def test_bad_rows(self):
        good = ((1, 0), (0, 1), 1)
        wrong = odd_values() + [list(good), good[:2], good + (1,), (None, (0, 1), 1), ((0, 1), None, 1), (None, None, None)]
        wrong += [((0, 0), (0, 1), 1), ((1, 0), (2, 0), 1), ([1, 0], (0, 1), 1), ((True, 0), (0, 1), 1), (None, None)]
        wrong += [((1, 0), (0, 1), value) for value in odd_numbers()] + [(None, None, value) for value in odd_numbers()]
        wrong += [(False, False, 1), (0, 0, 1), ((), (), 1), (None, False, 1)]
        for k, row in enumerate(wrong):
            with self.assertRaises(BadRow) as caught:
                round_of([good] * (k % 3) + [row, None])
            self.assertEqual(caught.exception.number, k % 3, repr(row))

    def test_what_is_passed_stays(self):
        rows = [((1, 0), (0, 1), 1), (None, None, 2)]
        round_of(rows)
        self.assertEqual(rows, [((1, 0), (0, 1), 1), (None, None, 2)])


class Values(unittest.TestCase):
    def test_ahead_of_the_first_entry(self):
        rnd = (((0, 1), 1, 2), ((-1, 0), 3, 4))
        told = [((1, 0), 4), ((1, 1), 4), ((0, 1), 1), ((-1, 1), 2), ((-1, 0), 3), ((0, -1), 4), ((5, -1), 4)]
        self.assertEqual([(u, round_at(rnd, u)) for u, _ in told], told)

    def test_one_entry(self):
        for u in ROUND:
            for w in ROUND:
                self.assertEqual(round_at(((u, 7, 2),), w), 7 if u == w else 2)
        self.assertEqual({round_at(still(3), u) for u in ROUND}, {3})


class Sums(unittest.TestCase):
    def test_added_and_multiplied(self):
        for one in told_rows():
            for other in told_rows()[:16]:
                self.assertEqual(added_rounds(round_of(one), round_of(other)), round_of(one + other))
            for n in (0, 1, -1, 7, 10 ** 9 - 1):
                self.assertEqual(times_round(round_of(one), n), round_of([(u, v, n * weight) for u, v, weight in one]))
            self.assertEqual(added_rounds(round_of(one), times_round(round_of(one), -1)), still(0))

    def test_still_ones(self):
        self.assertEqual(added_rounds(still(2), still(3)), still(5))
        self.assertEqual(added_rounds(still(2), (((0, 1), 0, 1),)), (((0, 1), 2, 3),))
        self.assertEqual(times_round(still(2), -3), still(-6))
        self.assertEqual(times_round((((0, 1), 0, 1),), 0), still(0))

    def test_round_sum(self):
        for rows in told_rows():
            self.assertEqual(round_sum(round_of(rows)), sum(weight for u, _, weight in rows if u is not None))
        self.assertEqual(round_sum((((0, 1), 0, 1),)), -1)
        self.assertEqual(round_sum(still(9)), 0)

    def test_all_are_in_round_order(self):
        for rows in told_rows():
            made = added_rounds(round_of(rows), round_of(rows[:2]))
            self.assertTrue(all(comes_ahead(a[0], b[0]) for a, b in zip(made, made[1:])))


if __name__ == "__main__":
    unittest.main()
