"""[10.1] and [10.5]: states, deeds, changes, texts of deeds."""

import unittest

from plateheaps.deeds import behind, change, deed_text, grown, read_deed
from plateheaps.errors import BadDeed, BadName, BadText, TooMany
from plateheaps.heaps import Heap, led_heap
from plateheaps.house import House
from plateheaps.insides import inside_out
from plateheaps.overlays import cut, over
from plateheaps.plates import hull
from plateheaps.products import put_together
from support import Dice, great_values, heap_told, odd_values, points_of, some_heaps, zoo

TRI, POINT, SEG = ((0, 0, 1), (1, 0, 1), (0, 1, 1)), ((0, 0, 1),), ((0, 0, 1), (1, 1, 1))
A, B = heap_told([("0,0 1,0 0,1", 2), ("5,5", -1)]), heap_told([("0,0 1,1", 1)])
STATE = {"a": A, "b": B}

DEEDS = [
    ("lay", "a", TRI, 2), ("lay", "c", SEG, -10 ** 30), ("lay", "abcdefgh", POINT, 0), ("lay", "z", zoo()["lone"], 7),
    ("add", "a", "b", -3), ("add", "a", "a", 5), ("add", "b", "c", 0), ("put", "a", "b"), ("put", "b", "b"), ("over", "a", "b"),
    ("over", "b", "zz"), ("cut", "a", (1, 0, -3)), ("cut", "b", (-2, 5, 0)), ("lead", "b", (0, 0, 0, 0, 3, 0, 1)),
    ("lead", "a", (1, -2, 3, 4, -5, 0, 6)), ("turn", "a"), ("turn", "q"), ("drop", "a"), ("drop", "q"),
]


def rows(many, start=0):
    """Return the heap of so many points."""
    return Heap([(((start + k, 0, 1),), 1) for k in range(many)])


def no_deeds():
    """Return values that are no deeds, whatever their names are."""
    found = [value for value in odd_values() + great_values()]
    found += [list(deed) for deed in DEEDS] + [deed[:-1] for deed in DEEDS] + [deed + ("a",) for deed in DEEDS]
    found += [("Lay",) + DEEDS[0][1:], ("undo",), ("merge", "a"), ("pick", 1), ("lay ",) + DEEDS[0][1:], (None, "a"), (["turn"], "a")]
    found += [("lay", "a", weight, 1) for weight in (None, (), TRI[::-1], list(TRI), "x", ((0, 0, True),), Heap([]), ((2, 0, 2),))]
    found += [("lay", "a", TRI, weight) for weight in (None, True, False, "1", (1,), [1], Heap([]))]
    found += [("add", "a", "b", n) for n in (None, True, "1", [1], Heap([]))]
    found += [("cut", "a", half) for half in ((0, 0, 1), (2, 0, 4), [1, 0, 0], (1, 0), (True, 0, 1), None)]
    found += [("lead", "a", told) for told in ((1, 0, 0, 1, 0, 0, 0), (2, 0, 0, 2, 0, 0, 2), (1, 0, 0, 1, 0, 0), [1, 0, 0, 1, 0, 0, 1])]
    return found + [("turn",), ("turn", "a", "b"), ("put", "a"), ("over",), ("drop", "a", None), (), ("cut", "a", (1, 0, False))]


NO_NAMES = [
    "", "A", "abcdefghi", "a b", "a1", "a-", " a", "a ", "\n", "aB", None, True, 1, 0, ("a",), ["a"], [], {}, {"a": 1}, Heap([]), ["a", [True]],
]


class Behind(unittest.TestCase):
    def check(self, deed, told):
        made = behind(STATE, deed)
        self.assertEqual(made, {name: heap for name, heap in told.items() if len(heap) > 0})
        self.assertEqual(list(made), sorted(made))

    def test_each_deed(self):
        leading = (1, -2, 3, 4, -5, 0, 6)
        for deed, told in (
            (("lay", "a", TRI, 2), {"a": A + Heap([(TRI, 2)]), "b": B}), (("lay", "c", TRI, 2), {**STATE, "c": Heap([(TRI, 2)])}),
            (("lay", "b", SEG, 0), STATE), (("lay", "b", SEG, -1), {"a": A}), (("lay", "c", SEG, 0), STATE),
            (("add", "a", "b", -3), {"a": A + -3 * B, "b": B}), (("add", "b", "a", 1), {"a": A, "b": A + B}),
            (("add", "c", "a", 2), {**STATE, "c": 2 * A}), (("add", "a", "c", 2), STATE), (("add", "a", "b", 0), STATE),
            (("put", "a", "b"), {"a": put_together(A, B), "b": B}), (("put", "a", "c"), {"b": B}), (("put", "c", "a"), STATE),
            (("over", "a", "b"), {"a": over(A, B), "b": B}), (("over", "b", "c"), {"a": A}),
            (("cut", "a", (1, 0, 1)), {"a": cut(A, (1, 0, 1)), "b": B}), (("cut", "b", (1, 0, 7)), {"a": A}),
            (("lead", "a", leading), {"a": led_heap(A, leading), "b": B}), (("turn", "a"), {"a": inside_out(A), "b": B}),
            (("turn", "b"), {"a": A, "b": inside_out(B)}), (("drop", "a"), {"b": B}), (("drop", "c"), STATE), (("turn", "c"), STATE),
        ):
            self.check(deed, told)

    def test_name_and_other_the_same(self):
        self.check(("add", "a", "a", 1), {"a": 2 * A, "b": B})
        self.check(("add", "a", "a", -1), {"b": B})
        self.check(("put", "a", "a"), {"a": put_together(A, A), "b": B})
        self.check(("over", "a", "a"), {"a": over(A, A), "b": B})

    def test_the_order_of_the_names(self):
        state = {}
        for name in ("m", "z", "aa", "a", "zz", "b", "az"):
            state = behind(state, ("lay", name, TRI, 1))
        self.assertEqual(list(state), ["a", "aa", "az", "b", "m", "z", "zz"])
        self.assertEqual(list(behind({"b": B, "a": A}, ("turn", "b"))), ["a", "b"])

    def test_what_is_passed_stays(self):
        state = {"a": A, "b": B}
        for deed in DEEDS:
            made = behind(state, deed)
            self.assertEqual([list(state), state], [["a", "b"], {"a": A, "b": B}])
            self.assertIsNot(made, state)
        made = behind(state, ("drop", "c"))
        made.clear()
        self.assertEqual(len(state), 2)

    def test_bad_deeds(self):
        for value in no_deeds():
            with self.assertRaises(BadDeed):
                behind(STATE, value)
            with self.assertRaises(BadDeed):
                House().do(value)

    def test_bad_names(self):
        for name in NO_NAMES:
            for deed in (("lay", name, TRI, 1), ("add", name, "b", 1), ("put", name, "b"), ("over", name, name), ("cut", name, (1, 0, 0)),
                         ("lead", name, (1, 0, 0, 1, 0, 0, 1)), ("turn", name), ("drop", name), ("add", "a", name, 1), ("put", "a", name), ("over", "a", name)):
                with self.assertRaises(BadName) as caught:
                    behind(STATE, deed)
                self.assertEqual(repr(caught.exception.name), repr(name))

    def test_the_order_of_the_errors(self):
        with self.assertRaises(BadDeed):
            behind(STATE, ("lay", "A", TRI, True))
        with self.assertRaises(BadDeed):
            behind(STATE, ("add", None, None, None))
        with self.assertRaises(BadName) as caught:
            behind(STATE, ("put", "X", "Y"))
        self.assertEqual(caught.exception.name, "X")
        full = {"a": rows(21), "b": rows(20)}
        with self.assertRaises(BadName) as caught:
            behind(full, ("put", "a", "Y"))
        self.assertEqual(caught.exception.name, "Y")

    def test_errors_bear_copies(self):
        name = ["a", [1, True]]
        with self.assertRaises(BadName) as caught:
            behind(STATE, ("put", "a", name))
        name[1].append(2)
        self.assertEqual(repr(caught.exception.name), "['a', [1, True]]")


class Caps(unittest.TestCase):
    def test_eight_sheets_and_nine(self):
        state = {}
        for name in "abcdefgh":
            state = behind(state, ("lay", name, TRI, 1))
        self.assertEqual(list(state), list("abcdefgh"))
        with self.assertRaises(TooMany):
            behind(state, ("lay", "i", TRI, 1))
        with self.assertRaises(TooMany):
            behind(state, ("add", "i", "a", 1))
        self.assertEqual(behind(state, ("lay", "i", TRI, 0)), state)
        self.assertEqual(behind(state, ("turn", "i")), state)
        self.assertEqual(list(behind(behind(state, ("drop", "c")), ("lay", "i", TRI, 1))), list("abdefghi"))
        self.assertEqual(len(behind(state, ("lay", "a", SEG, 1))), 8)

    def test_sixty_rows_and_sixty_one(self):
        state = {"a": rows(59), "b": rows(30, 100), "c": rows(31, 200), "d": Heap([(hull(points_of("0,0 3,0 0,3")), 1)]) + rows(53, 500)}
        full = behind(state, ("lay", "a", TRI, 1))
        self.assertEqual(len(full["a"]), 60)
        with self.assertRaises(TooMany):
            behind(full, ("lay", "a", SEG, 1))
        self.assertEqual(len(behind(full, ("lay", "a", TRI, -1))["a"]), 59)
        self.assertEqual(len(behind(full, ("lay", "a", TRI, 7))["a"]), 60)
        self.assertEqual(len(behind(state, ("add", "b", "b", 1))["b"]), 30)
        with self.assertRaises(TooMany):
            behind(state, ("add", "b", "c", 1))
        with self.assertRaises(TooMany):
            behind(full, ("add", "c", "a", 1))
        self.assertEqual(len(behind(state, ("turn", "d"))["d"]), 60)
        with self.assertRaises(TooMany):
            behind(behind(state, ("lay", "d", SEG, 1)), ("turn", "d"))

    def test_what_put_raises(self):
        state = {"a": rows(20), "b": rows(20), "c": rows(21)}
        self.assertEqual(len(behind(state, ("put", "a", "b"))["a"]), 39)
        for deed in (("put", "a", "c"), ("put", "c", "a"), ("put", "c", "c")):
            with self.assertRaises(TooMany):
                behind(state, deed)
        far = {"a": rows(8), "b": Heap([(((0, 9 * k, 1),), 1) for k in range(8)])}
        with self.assertRaises(TooMany):
            behind(far, ("put", "a", "b"))

    def test_what_over_raises(self):
        flat = [Heap([(((-k - 1, n, 1), (k + 1, n, 1)), 1) for k in range(21)]) for n in (0, 5)]
        with self.assertRaises(TooMany):
            behind({"a": flat[0], "b": flat[0]}, ("over", "a", "b"))
        self.assertEqual(behind({"a": flat[0], "b": flat[1]}, ("over", "a", "b")), {"b": flat[1]})


class Changes(unittest.TestCase):
    def test_by_hand(self):
        one, other = {"a": A, "b": B, "d": rows(2)}, {"a": A + B, "c": A, "d": rows(2)}
        self.assertEqual(change(one, other), {"a": B, "b": -1 * B, "c": A})
        self.assertEqual(change(other, one), {"a": -1 * B, "b": B, "c": -1 * A})
        self.assertEqual([change(one, one), change({}, {})], [{}, {}])
        self.assertEqual(grown(one, other), {"a": A + A + B, "b": B, "c": A, "d": 2 * rows(2)})
        self.assertEqual(grown(one, {"a": -1 * A, "b": -1 * B, "d": -1 * rows(2)}), {})

    def test_names_ascend(self):
        self.assertEqual(list(change({"z": A}, {"b": B, "m": A})), ["b", "m", "z"])
        self.assertEqual(list(grown({"m": A}, {"z": A, "b": B})), ["b", "m", "z"])

    def test_grown_by_the_change_it_is_the_other_one(self):
        heaps = [heap for heap in some_heaps() if len(heap) > 0]
        for k, heap in enumerate(heaps):
            one = {"a": heap, "b": heaps[k - 1], "m": heaps[k - 2]}
            other = {"b": heaps[k - 1], "c": heaps[k - 3], "m": heaps[k - 4]}
            self.assertEqual(grown(one, change(one, other)), other)

    def test_they_look_at_no_cap(self):
        many = {name: rows(60) for name in "abcdefgh"}
        more = {name: rows(60, 100) for name in "fghijklm"}
        self.assertEqual(len(grown(many, more)), 13)
        self.assertEqual(len(grown(many, more)["f"]), 120)
        self.assertEqual(len(change(many, more)["f"]), 120)

    def test_what_is_passed_stays(self):
        one, other = {"a": A, "b": B}, {"b": A}
        change(one, other).clear()
        grown(one, other).clear()
        self.assertEqual([one, other], [{"a": A, "b": B}, {"b": A}])


class Texts(unittest.TestCase):
    def test_by_hand(self):
        for deed, told in (
            (("lay", "a", TRI, -2), "lay a -2[(0 0) (1 0) (0 1)]"), (("lay", "b", POINT, 0), "lay b 0[(0 0)]"),
            (("lay", "b", ((-1, 2, 6), (3, 0, 2)), 10), "lay b 10[(-1/6 1/3) (3/2 0)]"), (("add", "a", "b", -3), "add a b -3"),
            (("add", "a", "a", 0), "add a a 0"), (("put", "abcdefgh", "b"), "put abcdefgh b"), (("over", "a", "zz"), "over a zz"),
            (("cut", "a", (1, 0, -3)), "cut a 1 0 -3"), (("lead", "q", (-1, 0, 2, 0, 3, -4, 5)), "lead q -1 0 2 0 3 -4 5"),
            (("turn", "a"), "turn a"), (("drop", "a"), "drop a"),
        ):
            self.assertEqual(deed_text(deed), told)
            self.assertEqual(read_deed(told), deed)

    def test_read_as_written(self):
        dice = Dice(31)
        more = [("lay", "a", dice.plate(50, 9, 8), dice.throw(-99, 99)) for _ in range(30)]
        for deed in DEEDS + more:
            self.assertEqual(read_deed(deed_text(deed)), deed)
            self.assertEqual(behind({}, read_deed(deed_text(deed))), behind({}, deed))

    def check(self, value):
        with self.assertRaises(BadText, msg=repr(value)[:90]) as caught:
            read_deed(value)
        self.assertEqual(caught.exception.place, 0)

    def test_any_value(self):
        for value in odd_values() + great_values() + DEEDS + ["", " ", "lay", "turn", "lay a", "[(0 0)]", "1[(0 0)]"]:
            self.check(value)

    def test_no_texts_of_deeds(self):
        for text in (
            "lay a -2[(0 0) (1 0) (0 1)] ", "lay a  2[(0 0)]", " lay a 2[(0 0)]", "lay  a 2[(0 0)]", "lay a 2 [(0 0)]", "lay a 2[(0 0)] 3[(1 0)]",
            "lay a -0[(0 0)]", "lay a 02[(0 0)]", "lay a 2[(0 0) (0 0)]", "lay a 2[(1 0) (0 0)]", "lay a 2[(2/4 0)]", "lay a 2[(1/1 0)]",
            "lay a 2[(0 0)", "lay a [(0 0)]", "lay a 2[]", "lay A 2[(0 0)]", "lay abcdefghi 2[(0 0)]", "lay a2 2[(0 0)]", "lay 2[(0 0)]", "lay a +2[(0 0)]",
            "add a b", "add a b 1 2", "add a b +1", "add a b 01", "add a b -0", "add a b --1", "add a b 1/2", "add a b x", "add a B 1", "add a 1", "add a b ",
            "put a", "put a b c", "put a b ", "put a  b", "put a B", "put A b", "over a", "over a b 1", "over", "over a bbbbbbbbb", "put  a b",
            "cut a 1 0", "cut a 1 0 0 0", "cut a 0 0 1", "cut a 2 0 4", "cut a 1 0 -0", "cut a (1, 0, 0)", "cut a 1 0 0 ", "cut a 1  0 0", "cut a 1 0 x",
            "lead a 1 0 0 1 0 0", "lead a 1 0 0 1 0 0 0", "lead a 1 0 0 1 0 0 -1", "lead a 2 0 0 2 0 0 2", "lead a 1 0 0 1 0 0 1 1", "lead a 1 0 0 1 0 0 01",
            "turn", "turn ", "turn a b", "turn a ", "turn A", "Turn a", "drop a\n", "drop\ta", "drop a a", "drop 1", "undo", "go a", "merge a", "pick 1", "show a",
        ):
            self.check(text)

    def test_two_hundred_figures(self):
        nines, more = "9" * 200, "1" + "0" * 200
        for text in ("lay a NUM[(0 0)]", "lay a -NUM[(0 0)]", "lay a 1[(NUM -1/NUM)]", "add a b NUM", "add a b -NUM", "cut a NUM 1 0", "lead a 1 0 0 1 -NUM 0 1",
                     "lead a 1 0 0 1 0 0 NUM"):
            self.assertEqual(deed_text(read_deed(text.replace("NUM", nines))), text.replace("NUM", nines))
            self.check(text.replace("NUM", more))

    def test_one_character_another_or_more_or_less(self):
        for deed in DEEDS[:4] + DEEDS[4:6] + DEEDS[11:14]:
            text = deed_text(deed)
            if len(text) > 60:
                continue
            for k in range(len(text) + 1):
                for changed in [text[:k] + sign + text[k:] for sign in "0 -a/["] + [text[:k] + text[k + 1:]]:
                    try:
                        made = read_deed(changed)
                    except BadText as error:
                        self.assertEqual(error.place, 0)
                    else:
                        self.assertEqual(deed_text(made), changed)
                        behind({}, made)


if __name__ == "__main__":
    unittest.main()
