"""[4.1] to [4.5]: steps."""

import unittest
from fractions import Fraction

from plateheaps.errors import BadRow
from plateheaps.steps import (
    added_steps, bottoms_of, cut_steps, judge_steps, mirrored_steps, put_steps, step_at, step_sum, steps_of,
    stretch_of, times_steps, tops_of,
)
from support import Dice, as_fraction, great_values, odd_numbers, odd_values, worth


def rows_told(*texts):
    """Return rows of texts such as "0 1/2 3": from 0 to 1/2 with the weight 3."""
    return [tuple(as_fraction(w) for w in text.split()[:2]) + (int(text.split()[2]),) for text in texts]


def steps_told(*texts):
    """Return the steps of texts such as "1/2 3 0": at 1/2 the look 3, behind it 0."""
    return tuple((as_fraction(t.split()[0]), int(t.split()[1]), int(t.split()[2])) for t in texts)


def thrown_rows(seed, many, limit=4):
    dice = Dice(seed)
    found = []
    for _ in range(many):
        ends = sorted(Fraction(dice.throw(-limit, limit), dice.throw(1, 3)) for _ in range(2))
        found.append((as_fraction(ends[0]), as_fraction(ends[1]), dice.throw(-2, 2)))
    return found


def told_rows():
    """Return lists of rows of all kinds."""
    found = [[], rows_told("0 1 1"), rows_told("0 0 -3"), rows_told("-1 2 0"), rows_told("0 1 1", "1 2 1", "1 1 -1")]
    found += [rows_told("0 1 1", "0 1 -1"), rows_told("0 2 1", "0 0 -1", "2 2 -1"), rows_told("-1/2 1/3 2", "1/3 5 2")]
    return found + [thrown_rows(seed, seed % 7 + 1) for seed in range(20)]


def look_in(rows, x):
    """Return the look of rows at a height, as [4.2] tells it."""
    return sum(weight for low, high, weight in rows if worth(low) <= x <= worth(high))


def probes(*many):
    """Return all heights of rows or steps, the middles between them, and two beyond."""
    heights = sorted({worth(part) for rows in many for row in rows for part in row if isinstance(part, tuple)} | {0})
    middles = [(x + y) / 2 for x, y in zip(heights, heights[1:])]
    return sorted(heights + middles + [heights[0] - 1, heights[-1] + 1])


class Judged(unittest.TestCase):
    def test_steps(self):
        for value in ((), steps_told("0 1 0"), steps_told("0 0 1", "1 0 0"), steps_told("-1/2 1 1", "1/3 0 1", "2 1 0"),
                      steps_told("0 1 1", "1 0 1", "2 1 0"), steps_told("0 -1 5", "7 5 0")):
            self.assertIsNone(judge_steps(value))

    def test_great_values(self):
        for value in great_values():
            self.assertEqual(judge_steps(value), ("form",), repr(value)[:50])
            self.assertEqual(judge_steps((((0, 1), 1, 0), value)), ("form",))

    def test_no_tuple_of_entries(self):
        entry, end = ((0, 1), 1, 1), ((1, 1), 1, 0)
        for value in odd_values():
            if value != () or isinstance(value, (list, dict)):
                self.assertEqual(judge_steps(value), ("form",), repr(value))
            self.assertEqual(judge_steps((entry, value, end)), ("form",), repr(value))
        for value in ([entry, end], (list(entry), end), (([0, 1], 1, 1), end), (entry, end, end[:2]), (entry + (0,), end)):
            self.assertEqual(judge_steps(value), ("form",))
        for height in ((2, 2), (1, -1), (1, 0), (0, 2), 1, (True, 1), (0, True), (1,), (1, 1, 1)):
            self.assertEqual(judge_steps(((height, 1, 0),)), ("form",), height)
        for wrong in odd_numbers():
            self.assertEqual(judge_steps((((0, 1), wrong, 0),)), ("form",), repr(wrong))
            self.assertEqual(judge_steps((((0, 1), 1, wrong),)), ("form",), repr(wrong))

    def test_heights(self):
        self.assertEqual(judge_steps(steps_told("0 1 0", "0 1 0")), ("height", 1))
        self.assertEqual(judge_steps(steps_told("0 1 0", "1 1 0", "1/2 1 0", "1/3 1 0")), ("height", 2))
        self.assertEqual(judge_steps(steps_told("1/2 1 0", "1/3 1 0")), ("height", 1))
        self.assertEqual(judge_steps(steps_told("-1/3 1 0", "-1/2 1 0")), ("height", 1))

    def test_nothing_changes(self):
        self.assertEqual(judge_steps(steps_told("0 0 0")), ("same", 0))
        self.assertEqual(judge_steps(steps_told("0 1 2", "1 2 2", "3 2 2", "4 0 0")), ("same", 1))
        self.assertEqual(judge_steps(steps_told("0 1 1", "2 0 0", "3 0 0")), ("same", 2))

    def test_the_end(self):
        self.assertEqual(judge_steps(steps_told("0 1 1")), ("end",))
        self.assertEqual(judge_steps(steps_told("0 1 1", "1 5 -1")), ("end",))

    def test_the_order_of_faults(self):
        self.assertEqual(judge_steps(steps_told("0 0 0", "0 0 1") + (None,)), ("form",))
        self.assertEqual(judge_steps(steps_told("0 0 0", "1 0 0", "1 1 1")), ("height", 2))
        self.assertEqual(judge_steps(steps_told("0 1 1", "1 1 1")), ("same", 1))


class Made(unittest.TestCase):
    def test_looks(self):
        for rows in told_rows():
            made = steps_of(rows)
            self.assertIsNone(judge_steps(made), rows)
            for x in probes(rows):
                self.assertEqual(step_at(made, as_fraction(x)), look_in(rows, x), (rows, x))
            self.assertEqual(steps_of(tuple(rows[::-1])), made)

    def test_just_these(self):
        self.assertEqual(steps_of([]), ())
        self.assertEqual(steps_of(rows_told("0 1 0", "2 2 0")), ())
        self.assertEqual(steps_of(rows_told("0 1 1", "0 1 -1")), ())
        self.assertEqual(steps_of(rows_told("1/2 1/2 -3")), steps_told("1/2 -3 0"))
        self.assertEqual(steps_of(rows_told("0 1 1", "1 2 1", "1 1 -1")), steps_told("0 1 1", "2 1 0"))
        self.assertEqual(steps_of(rows_told("0 1 1", "1 2 1")), steps_told("0 1 1", "1 2 1", "2 1 0"))
        self.assertEqual(steps_of(rows_told("0 2 1", "0 0 -1", "2 2 -1")), steps_told("0 0 1", "2 0 0"))
        self.assertEqual(steps_of(rows_told("0 2 1", "0 0 -1")), steps_told("0 0 1", "2 1 0"))

    def test_heights_near_to_one_another(self):
        n = 10 ** 9
        rows = [((1, n - 1), (1, n - 2), 1), ((1, n), (1, n - 1), 1), ((n - 2, n - 1), (n - 1, n), 1)]
        self.assertEqual([entry[0] for entry in steps_of(rows)],
                         [(1, n), (1, n - 1), (1, n - 2), (n - 2, n - 1), (n - 1, n)])

    def test_sixty_rows(self):
        rows = [(as_fraction(Fraction(k, 7)), as_fraction(Fraction(k + 30, 7)), k % 5 - 2) for k in range(60)]
        made = steps_of(rows)
        for k in range(-1, 182):
            self.assertEqual(step_at(made, as_fraction(Fraction(k, 14))), look_in(rows, Fraction(k, 14)))

    def test_bad_rows(self):
        good = ((0, 1), (1, 1), 1)
        wrong = odd_values() + [list(good), good[:2], good + (1,), ((1, 1), (0, 1), 1), ((1, 2), (1, 3), 1), ((0, 2), (1, 1), 1)]
        wrong += [((0, 1), (2, 2), 1), ([0, 1], (1, 1), 1), ((0, 1), [1, 1], 1), ((False, 1), (1, 1), 1), (0, 1, 1)]
        wrong += [((0, 1), (1, 1), worth_of) for worth_of in odd_numbers()]
        for k, row in enumerate(wrong):
            with self.assertRaises(BadRow) as caught:
                steps_of([good] * (k % 3) + [row, None])
            self.assertEqual(caught.exception.number, k % 3, repr(row))

    def test_what_is_passed_stays(self):
        rows = rows_told("0 1 1", "1 2 1")
        steps_of(rows)
        self.assertEqual(rows, rows_told("0 1 1", "1 2 1"))


class Sums(unittest.TestCase):
    def test_sum_of_closed_stretches(self):
        for rows in told_rows():
            self.assertEqual(step_sum(steps_of(rows)), sum(weight for _, _, weight in rows))
        self.assertEqual(step_sum(steps_told("0 0 1", "2 0 0")), -1)
        self.assertEqual(step_sum(steps_told("0 1 1", "2 0 0")), 0)
        self.assertEqual(step_sum(()), 0)

    def test_added_and_multiplied(self):
        for one in told_rows():
            for other in told_rows()[3:14]:
                both = added_steps(steps_of(one), steps_of(other))
                self.assertEqual(both, steps_of(one + other))
            for n in (0, 1, -1, 7, 10 ** 9 - 1):
                times = [(low, high, n * weight) for low, high, weight in one]
                self.assertEqual(times_steps(steps_of(one), n), steps_of(times))
            self.assertEqual(added_steps(steps_of(one), times_steps(steps_of(one), -1)), ())

    def test_cut(self):
        for rows in told_rows():
            steps = steps_of(rows)
            for edge in probes(rows):
                left = cut_steps(steps, as_fraction(edge))
                self.assertIsNone(judge_steps(left), (steps, edge))
                for x in probes(steps, left):
                    told = step_at(steps, as_fraction(x)) if x >= edge else 0
                    self.assertEqual(step_at(left, as_fraction(x)), told, (steps, edge, x))

    def test_cut_where_nothing_is_left_at_the_height(self):
        self.assertEqual(cut_steps(steps_told("0 1 1", "1 0 0", "2 1 0"), (1, 1)), steps_told("2 1 0"))
        self.assertEqual(cut_steps(steps_told("0 1 1", "1 0 1", "2 1 0"), (1, 1)), steps_told("1 0 1", "2 1 0"))
        self.assertEqual(cut_steps(steps_told("0 1 1", "1 1 0"), (1, 1)), steps_told("1 1 0"))
        self.assertEqual(cut_steps(steps_told("0 1 1", "1 1 0"), (2, 1)), ())
        self.assertEqual(cut_steps((), (0, 1)), ())

    def test_mirrored(self):
        for rows in told_rows():
            steps = steps_of(rows)
            made = mirrored_steps(steps)
            self.assertIsNone(judge_steps(made))
            self.assertEqual(mirrored_steps(made), steps)
            for x in probes(rows):
                self.assertEqual(step_at(made, as_fraction(-x)), step_at(steps, as_fraction(x)))

    def test_just_mirrored(self):
        self.assertEqual(mirrored_steps(steps_told("0 1 1", "2 0 0")), steps_told("-2 0 1", "0 1 0"))
        self.assertEqual(mirrored_steps(()), ())


def put_rows(one, other):
    return [tuple(as_fraction(worth(a[k]) + worth(b[k])) for k in (0, 1)) + (a[2] * b[2],) for a in one for b in other]


class PutTogether(unittest.TestCase):
    def test_each_stretch_to_each(self):
        for one in told_rows():
            for other in told_rows()[:14]:
                self.assertEqual(put_steps(steps_of(one), steps_of(other)), steps_of(put_rows(one, other)))

    def test_whatever_stretches_are_taken(self):
        whole, parts = rows_told("0 3 1"), rows_told("0 1 1", "1 3 1", "1 1 -1")
        other = rows_told("1/2 2 2", "0 1/3 -1")
        self.assertEqual(steps_of(whole), steps_of(parts))
        self.assertEqual(steps_of(put_rows(whole, other)), steps_of(put_rows(parts, other)))
        self.assertEqual(put_steps(steps_of(parts), steps_of(other)), steps_of(put_rows(whole, other)))

    def test_open_stretches(self):
        back = steps_told("-1 0 -1", "0 0 0")
        self.assertEqual(put_steps(steps_told("0 1 1", "1 1 0"), back), steps_told("0 1 0"))
        self.assertEqual(put_steps(back, back), steps_told("-2 0 -1", "0 0 0"))
        half_open = steps_told("0 1 1", "1 0 0")
        self.assertEqual(put_steps(half_open, half_open), steps_told("0 1 1", "1 -1 -1", "2 0 0"))

    def test_sum_and_tops(self):
        for seed in range(10):
            one, other = steps_of(thrown_rows(seed, 6)), steps_of(thrown_rows(seed + 50, 6))
            both = put_steps(one, other)
            self.assertEqual(step_sum(both), step_sum(one) * step_sum(other))
            self.assertEqual(put_steps(other, one), both)
            for told in (tops_of, bottoms_of):
                sums = {}
                for h, weight in told(one):
                    for g, times in told(other):
                        sums[worth(h) + worth(g)] = sums.get(worth(h) + worth(g), 0) + weight * times
                found = [(as_fraction(h), sums[h]) for h in sorted(sums) if sums[h]]
                self.assertEqual(told(both), found)

    def test_nothing_and_a_point(self):
        steps = steps_of(thrown_rows(3, 6))
        self.assertEqual(put_steps(steps, ()), ())
        self.assertEqual(put_steps((), ()), ())
        self.assertEqual(put_steps(steps, steps_told("0 1 0")), steps)

    def test_twelve_entries_each(self):
        one = steps_of([(as_fraction(Fraction(k, 7)), as_fraction(Fraction(k + 2, 7)), k + 1) for k in range(0, 24, 4)])
        other = steps_of([(as_fraction(Fraction(k, 9)), as_fraction(Fraction(k + 1, 9)), k - 7) for k in range(0, 18, 3)])
        self.assertEqual((len(one), len(other)), (12, 12))
        self.assertEqual(step_sum(put_steps(one, other)), 66 * 3)


class TopsAndBottoms(unittest.TestCase):
    def test_as_the_rows_end_and_begin(self):
        for rows in told_rows():
            for told, part in ((bottoms_of, 0), (tops_of, 1)):
                sums = {}
                for row in rows:
                    sums[worth(row[part])] = sums.get(worth(row[part]), 0) + row[2]
                self.assertEqual(told(steps_of(rows)), [(as_fraction(h), sums[h]) for h in sorted(sums) if sums[h]])

    def test_new_lists(self):
        steps = steps_told("0 1 1", "1 0 1", "2 1 0")
        for told in (bottoms_of, tops_of):
            self.assertIs(type(told(steps)), list)
            told(steps).clear()
            self.assertEqual(len(told(steps)), 2)
            self.assertEqual(told(()), [])

    def test_first_entry(self):
        self.assertEqual(bottoms_of(steps_told("0 0 1", "1 1 0")), [])
        self.assertEqual(tops_of(steps_told("0 0 1", "1 1 0")), [((0, 1), -1), ((1, 1), 1)])


class OneStretch(unittest.TestCase):
    def test_closed_ones(self):
        for w in (1, -1):
            self.assertEqual(stretch_of(steps_of([((1, 2), (7, 3), w)])), (w, (1, 2), (7, 3)))
            self.assertEqual(stretch_of(steps_of([((1, 2), (1, 2), w)])), (w, (1, 2), (1, 2)))

    def test_open_ones(self):
        self.assertEqual(stretch_of(steps_told("0 0 -1", "2 0 0")), (1, (2, 1), (0, 1)))
        self.assertEqual(stretch_of(steps_told("0 0 1", "2 0 0")), (-1, (2, 1), (0, 1)))

    def test_others(self):
        for steps in ((), steps_told("0 2 0"), steps_told("0 1 1", "1 2 1", "2 1 0"), steps_told("0 0 2", "1 0 0"),
                      steps_told("0 1 1", "1 0 0"), steps_told("0 0 1", "1 1 0"), steps_told("0 1 2", "1 2 0"),
                      steps_told("0 -3 -3", "1 -3 0"), steps_told("0 1 0", "1 1 0"),
                      steps_told("0 2 2", "1 1 1", "3 1 0"), steps_told("0 1 1", "1 1 2", "2 2 0")):
            self.assertIsNone(stretch_of(steps), steps)


if __name__ == "__main__":
    unittest.main()
