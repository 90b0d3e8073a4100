"""[3.5]: texts of heaps, written and read."""

import re
import unittest
from fractions import Fraction
from math import gcd

from plateheaps.errors import BadRow, BadText
from plateheaps.heaps import Heap
from plateheaps.heaptexts import heap_text, read_heap
from plateheaps.plates import is_plate
from support import as_place, at, odd_values, points_of, zoo

WHOLE = "(?:0|[1-9][0-9]{0,199})"
NUMBER = f"-?{WHOLE}(?:/{WHOLE})?"
PLACE = rf"\({NUMBER} {NUMBER}\)"
ROW = rf"-?{WHOLE}\[{PLACE}(?: {PLACE})*\]"
FORM = re.compile(f"(?:{ROW}(?: {ROW})*)?")
ENDS = ("", "0[(0 0)]", "[(0 0)]", "(0 0)]", "0 0)]", " 0)]", "0)]", ")]", "]")

TEXTS = [
    "-1[(0 0)] 3[(0 0) (1 0) (0 1)]", "12[(-1/2 0) (1/3 -7)]", "5[(0 0) (1/2 0)] -40[(0 0) (1 0)]", "1[(0 0)]",
]


def outcome(text):
    """Return the heap of a text, or the name of the error and its number."""
    try:
        return read_heap(text)
    except BadText as error:
        return ("text", error.place)
    except BadRow as error:
        return ("row", error.number)


def told_outcome(text):
    """Return what outcome has to be, worked out by regular expressions."""
    for k in range(len(text)):
        if not any(FORM.fullmatch(text[:k + 1] + end) for end in ENDS):
            return ("text", k)
    if not FORM.fullmatch(text):
        return ("text", len(text))
    rows = []
    for number, row in enumerate(re.findall(ROW, text)):
        weight, _, places = row.partition("[")
        words = re.findall(NUMBER, places)
        if weight in ("0", "-0") or any(is_odd(word) for word in words):
            return ("row", number)
        worth = [Fraction(word) for word in words]
        plate = tuple([as_place(x, y) for x, y in zip(worth[::2], worth[1::2])])
        if not is_plate(plate) or rows and [at(p) for p in rows[-1][0]] >= [at(p) for p in plate]:
            return ("row", number)
        rows.append((plate, int(weight)))
    return Heap(rows)


def is_odd(word):
    """Tell whether a fraction of the right form is not as it would be written."""
    above, slash, below = word.partition("/")
    return word == "-0" or slash == "/" and (int(below) < 2 or gcd(int(above), int(below)) > 1)


class Writing(unittest.TestCase):
    def test_all_kinds(self):
        heap = Heap([(zoo()["lone"], -12), (zoo()["short"], 1), (zoo()["five"], 10 ** 30)])
        told = "10" + "0" * 29 + "[(-1 0) (0 -1) (2 0) (3/2 3/2) (0 1)] -12[(-2/3 1/3)] 1[(1/2 1/2) (1 0)]"
        self.assertEqual(heap_text(heap), told)

    def test_each_coordinate_by_itself(self):
        self.assertEqual(heap_text(Heap([(((3, 4, 6),), 1)])), "1[(1/2 2/3)]")
        self.assertEqual(heap_text(Heap([(((-3, 0, 2),), 1)])), "1[(-3/2 0)]")
        self.assertEqual(heap_text(Heap([(((2, 1, 2),), 1)])), "1[(1 1/2)]")

    def test_no_rows(self):
        self.assertEqual(heap_text(Heap([])), "")
        self.assertEqual(read_heap(""), Heap([]))

    def test_two_hundred_figures(self):
        long = 10 ** 200 - 1
        heap = Heap([(((-long, long - 1, long - 3),), -long), (((0, 0, 1),), long)])
        self.assertEqual(read_heap(heap_text(heap)), heap)

    def test_read_as_written(self):
        heap = Heap([(plate, 3 * k - 10) for k, plate in enumerate(zoo().values())])
        self.assertEqual(read_heap(heap_text(heap)), heap)
        for text in TEXTS:
            self.assertEqual(heap_text(read_heap(text)), text)
            self.assertEqual(told_outcome(text), read_heap(text))


class NoTexts(unittest.TestCase):
    def test_any_value(self):
        for value in odd_values():
            if not isinstance(value, str):
                self.assertEqual(outcome(value), ("text", 0), repr(value))
        self.assertEqual(outcome(["1[(0 0)]"]), ("text", 0))
        self.assertEqual(outcome(Heap([])), ("text", 0))


class Form(unittest.TestCase):
    def test_texts_that_end_too_early(self):
        for text in TEXTS:
            for k in range(1, len(text)):
                if not FORM.fullmatch(text[:k]):
                    self.assertEqual(outcome(text[:k]), ("text", k), text[:k])

    def test_one_character_is_another_or_more_or_less(self):
        for text in TEXTS[:3]:
            for k in range(len(text) + 1):
                for sign in "01-/[]() x\n\t":
                    for changed in (text[:k] + sign + text[k + 1:], text[:k] + sign + text[k:]):
                        self.assertEqual(outcome(changed), told_outcome(changed), changed)
                changed = text[:k] + text[k + 1:]
                self.assertEqual(outcome(changed), told_outcome(changed), changed)

    def test_first_characters(self):
        for text in (" ", "x", "[", "+1[(0 0)]", "\n", " 1[(0 0)]", "]", "/2[(0 0)]"):
            self.assertEqual(outcome(text), ("text", 0), text)
        for text, place in (("-", 1), ("--1", 1), ("- 1", 1), ("-[(0 0)]", 1)):
            self.assertEqual(outcome(text), ("text", place), text)

    def test_figures_that_begin_with_nought(self):
        for text, place in (
            ("00[(0 0)]", 1), ("-01[(0 0)]", 2), ("1[(01 0)]", 4), ("1[(0 -00)]", 7), ("1[(1/02 0)]", 6),
            ("1[(1/-2 0)]", 5), ("1[(1/ 0)]", 5), ("1[(1/2/3 0)]", 6),
        ):
            self.assertEqual(outcome(text), ("text", place), text)

    def test_blanks_and_brackets(self):
        for text, place in (
            ("1 [(0 0)]", 1), ("1[]", 2), ("1[ (0 0)]", 2), ("1[(0  0)]", 5), ("1[(0 0 )]", 6), ("1[(0 0)(1 0)]", 7),
            ("1[(0 0)  (1 0)]", 8), ("1[(0 0)],2[(1 0)]", 8), ("1[(0 0)]  2[(1 0)]", 9), ("1[(0 0)] ", 9),
            ("1[(0,0)]", 4), ("1[(0)]", 4), ("1[(0 0 0)]", 6), ("1[(0 0)]\n", 8), ("1[(0 0) ]", 8),
        ):
            self.assertEqual(outcome(text), ("text", place), text)

    def test_two_hundred_and_one_figures(self):
        most, more = "1" * 200, "1" * 201
        self.assertEqual(outcome(f"{most}[(-{most} 1/{most})]"), told_outcome(f"{most}[(-{most} 1/{most})]"))
        self.assertEqual(read_heap(f"-{most}[(0 0)]").total(), -int(most))
        for text, place in ((more, 200), ("-" + more, 201), (f"1[({more} 0)]", 203), (f"1[(-{more} 0)]", 204),
                            (f"1[(1/{more} 0)]", 205), (f"1[(0 {more} 0)]", 205), ("1" * 900 + "x", 200)):
            self.assertEqual(outcome(text), ("text", place), text)
        self.assertEqual(outcome("0" * 201), ("text", 1))

    def test_other_signs_that_are_figures_elsewhere(self):
        self.assertEqual(outcome("1[(\u0663 0)]"), ("text", 3))
        self.assertEqual(outcome("1_0[(0 0)]"), ("text", 1))


class BadRows(unittest.TestCase):
    def test_each_fault(self):
        for text in (
            "0[(0 0)]", "-0[(0 0)]", "1[(-0 0)]", "1[(0 -0)]", "1[(2/4 0)]", "1[(0 3/1)]", "1[(1/0 0)]",
            "1[(0 0/0)]", "1[(0/2 0)]", "1[(-0/3 0)]", "1[(0 0) (0 0)]", "1[(1 0) (0 0)]",
            "1[(0 0) (0 1) (1 0)]", "1[(0 0) (1 0) (2 0)]",
        ):
            self.assertEqual(outcome(text), ("row", 0), text)
            self.assertEqual(told_outcome(text), ("row", 0), text)
            self.assertEqual(outcome(f"1[(-5 0)] 2[(-4 0)] {text}"), ("row", 2), text)
            self.assertEqual(outcome(f"{text} 0[(-4 0)]"), ("row", 0), text)

    def test_rows_that_do_not_ascend(self):
        self.assertEqual(outcome("1[(0 0)] 1[(0 0)]"), ("row", 1))
        self.assertEqual(outcome("1[(0 0)] 1[(1 0)] 1[(1/2 0)]"), ("row", 2))
        self.assertEqual(outcome("1[(0 0) (1 0)] 1[(0 0)]"), ("row", 1))
        self.assertEqual(outcome("1[(0 0) (1 0) (0 1)] 1[(0 0) (1 0)]"), ("row", 1))
        self.assertEqual(outcome("1[(0 1)] 1[(0 -1) (5 5)]"), ("row", 1))
        self.assertEqual(read_heap("1[(0 0)] 1[(0 0) (1 0)] 1[(0 0) (1 0) (0 1)] 1[(1/3 0)]").total(), 4)

    def test_form_goes_ahead_of_rows(self):
        self.assertEqual(outcome("0[(2/4 0)] 1[(0 0)"), ("text", 18))
        self.assertEqual(outcome("-0[(0 0)] x"), ("text", 10))

    def test_no_list_is_kept(self):
        heap = read_heap("1[(0 0)]")
        heap.rows().clear()
        self.assertEqual(heap, Heap([(tuple(points_of("0,0")), 1)]))


if __name__ == "__main__":
    unittest.main()
