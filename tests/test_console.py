"""[10.6]: what lines say, and the answers."""

import unittest

from plateheaps.console import Console
from plateheaps.deeds import deed_text
from plateheaps.heaptexts import heap_text
from plateheaps.house import House, blame
from support import great_values, odd_values
from test_deeds import DEEDS

LAID = ["lay a 2[(0 0) (1 0) (0 1)]", "lay a -1[(1/2 0)]", "lay b 1[(0 0)]"]


def desk_with(lines):
    desk = Console()
    for line in lines:
        desk.say(line)
    return desk


class Lines(unittest.TestCase):
    def check(self, desk, pairs):
        for line, told in pairs:
            self.assertEqual(desk.say(line), told, line)

    def test_the_house(self):
        desk = Console()
        self.assertIsInstance(desk.house(), House)
        self.assertEqual(desk.house(), House())
        self.assertIs(desk.house(), desk.house())
        self.assertIsNot(Console().house(), desk.house())
        desk.say("lay a 1[(0 0)]")
        self.assertEqual(len(desk.house()), 2)
        desk.house().undo()
        self.assertEqual(desk.say("show"), "")

    def test_deeds(self):
        desk, house = Console(), House()
        for k, deed in enumerate(DEEDS):
            self.assertEqual(desk.say(deed_text(deed)), str(k + 1))
            house.do(deed)
            self.assertEqual(desk.house(), house)

    def test_going_about(self):
        self.check(Console(), [
            ("lay a 1[(0 0)]", "1"), ("branch side", "1"), ("lay a 1[(1 0)]", "2"), ("go side", "1"), ("lay b 3[(0 0)]", "3"),
            ("merge main", "4"), ("show", "a b"), ("go main", "2"), ("show", "a"), ("pick 3", "5"), ("revert 1", "6"), ("show a", "1[(1 0)]"),
            ("undo", "5"), ("undo", "2"), ("redo", "5"), ("redo", "6"), ("merge main", "6"), ("pick 0", "7"), ("merge side", "8"),
            ("at 4", "a b"), ("at 0", ""), ("at 1", "a"), ("branch more", "8"), ("go more", "8"), ("undo", "7"),
        ])

    def test_asking(self):
        self.check(desk_with(LAID), [
            ("show", "a b"), ("show a", "2[(0 0) (1 0) (0 1)] -1[(1/2 0)]"), ("show b", "1[(0 0)]"), ("show c", ""), ("sum a", "1"), ("sum b", "1"),
            ("sum c", "0"), ("look a 0 0", "2"), ("look a 1/2 0", "1"), ("look a -1/2 0", "0"), ("look a 1/3 1/3", "2"), ("look c 0 0", "0"),
            ("alike a b", "no"), ("alike a a", "yes"), ("alike c d", "yes"), ("alike c a", "no"), ("at 1", "a"), ("at 3", "a b"), ("at 0", ""),
            ("blame a 1/2 0", "1:2 2:-1"), ("blame a 0 0", "1:2"), ("blame b 0 0", "3:1"), ("blame c 0 0", ""), ("blame a 9 -7/3", ""),
        ])

    def test_the_empty_house(self):
        self.check(Console(), [
            ("show", ""), ("show a", ""), ("sum a", "0"), ("look a 0 0", "0"), ("alike a b", "yes"), ("at 0", ""), ("blame a 0 0", ""), ("undo", "refused"),
            ("redo", "refused"), ("merge main", "0"), ("pick 0", "1"), ("revert 0", "2"), ("branch a", "2"), ("go a", "2"), ("go main", "2"),
        ])

    def test_asking_changes_nothing(self):
        desk = desk_with(LAID)
        twin = desk.house().twin()
        for line in ("show", "show a", "sum a", "look a 0 0", "alike a b", "at 1", "blame a 0 0", "what", ""):
            desk.say(line)
            self.assertEqual(desk.house(), twin)

    def test_alike_by_looks_not_by_rows(self):
        desk = desk_with(["lay a 1[(0 0) (2 0)]", "lay b 1[(0 0) (1 0)]", "lay b 1[(1 0) (2 0)]"])
        self.check(desk, [("alike a b", "no"), ("lay b -1[(1 0)]", "4"), ("alike a b", "yes"), ("alike b a", "yes")])

    def test_as_the_house_tells(self):
        desk = desk_with(LAID + ["turn a", "branch s", "lead a 2 1 0 1 0 0 3", "go s", "put b a", "merge main"])
        house = desk.house()
        for name in ("a", "b"):
            self.assertEqual(desk.say("show " + name), heap_text(house.state()[name]))
            self.assertEqual(desk.say("sum " + name), str(house.state()[name].total()))
            told = " ".join(f"{number}:{d}" for number, d in blame(house, name, (1, 1, 2)))
            self.assertEqual(desk.say(f"blame {name} 1/2 1/2"), told)
        self.assertEqual(desk.say("show"), " ".join(house.state()))


class Refused(unittest.TestCase):
    def test_nothing_changes(self):
        desk = desk_with(LAID + ["undo", "branch side"])
        twin = desk.house().twin()
        for line in ("go far", "merge far", "branch side", "branch main", "pick 4", "revert 77", "pick " + "9" * 30, "at 4", "at " + "1" * 30):
            self.assertEqual(desk.say(line), "refused", line)
            self.assertEqual(desk.house(), twin)
        self.assertEqual([desk.say("redo"), desk.say("redo")], ["3", "refused"])
        self.assertEqual([desk.say(line) for line in ["undo"] * 4], ["2", "1", "0", "refused"])

    def test_caps(self):
        desk = desk_with([f"lay {name} 1[(0 0)]" for name in "abcdefgh"])
        self.assertEqual(desk.say("lay i 1[(0 0)]"), "refused")
        self.assertEqual(desk.say("lay i 0[(0 0)]"), "9")
        desk = desk_with([f"lay a 1[({k} 0)]" for k in range(60)])
        for line in ("lay a 1[(60 0)]", "put a a"):
            self.assertEqual(desk.say(line), "refused")
        desk = desk_with([f"branch {name}" for name in "abcde"])
        self.assertEqual([desk.say("branch f"), desk.say("branch e"), desk.say("go e")], ["refused", "refused", "0"])

    def test_two_hundred_moments(self):
        desk = desk_with(["lay a 1[(0 0)]"] * 199)
        for line in ("lay a 1[(0 0)]", "pick 0", "revert 0", "turn b"):
            self.assertEqual(desk.say(line), "refused")
        self.assertEqual(desk.say("sum a"), "199")


class What(unittest.TestCase):
    def test_any_value(self):
        desk = desk_with(LAID)
        for value in odd_values() + great_values() + DEEDS + [["undo"], ("undo",), b"undo", {"undo": 1}]:
            self.assertEqual(desk.say(value), "what", repr(value)[:80])

    def test_no_lines(self):
        desk = desk_with(LAID)
        twin = desk.house().twin()
        for line in (
            "", " ", "up", "undo ", " undo", "undo 1", "Undo", "UNDO", "undo\n", "undo\t", "redo ", "redo redo", "go", "go ", "go  side", "go Side",
            "go side ", "go a b", "go abcdefghi", "go s1", "go 1", "merge", "merge Main", "merge main main", "branch", "branch A", "branch ninewords",
            "branch a b", "pick", "pick a", "pick -1", "pick 01", "pick 00", "pick +1", "pick 1 2", "pick  1", "pick 1/1", "pick 1.0", "revert 01",
            "revert -0", "pick " + "1" * 31, "at " + "9" * 31, "at", "at -1", "at 00", "at a", "at 1 1", "show ", "show A", "show  a", "show a b", "show 1",
            "sum", "sum ", "sum A", "sum a b", "sum  a", "look", "look a", "look a 0", "look a 0 0 0", "look A 0 0", "look a 0  0", "look a x 0", "look a 0 y",
            "look a 2/4 0", "look a 1/1 0", "look a 0/1 0", "look a -0 0", "look a 1/0 0", "look a 01 0", "look a 1/02 0", "look a 1/-2 0", "look a --1 0",
            "look a +1 0", "look a 1/ 0", "look a /2 0", "look a 0 -", "look a 0 2/4", "look a 0 0/2", "look a (0 0)", "alike a", "alike a b c", "alike A b",
            "alike a B", "alike  a b", "blame a 0", "blame A 0 0", "blame a 0 0 ", "blame a 0 00", "blame a 3/6 0", "blame a 1/3 1/3 1/3", "lay a", "lay A 1[(0 0)]",
            "lay a 1[(0 0)] ", "lay a  1[(0 0)]", "lay a 1[(0  0)]", "lay a 01[(0 0)]", "add a b", "add a B 1", "put a", "cut a 2 0 4", "lead a 1 0 0 1 0 0", "turn",
            "drop a b", "house", "len", "state", "log", "twin", "main", "a", "1", "undo;redo", "undo undo",
        ):
            self.assertEqual(desk.say(line), "what", line)
            self.assertEqual(desk.house(), twin)

    def test_figures(self):
        desk = desk_with(LAID)
        nines, more = "9" * 200, "1" + "0" * 200
        for line in ("look a NUM 0", "look a 0 -NUM", "look a 1/NUM 0", "blame a -1/NUM NUM"):
            self.assertNotEqual(desk.say(line.replace("NUM", nines)), "what")
            self.assertEqual(desk.say(line.replace("NUM", more)), "what")
        self.assertEqual([desk.say("pick " + "9" * 30), desk.say("pick " + "9" * 31)], ["refused", "what"])
        self.assertEqual(desk.say(f"add a a {nines}"), "4")
        self.assertEqual(desk.say(f"add a a {more}"), "what")

    def test_answers_are_strings(self):
        desk = Console()
        for line in LAID + ["undo", "show", "sum a", "look a 0 0", "alike a b", "at 0", "far", "undo", "undo", "undo", None]:
            self.assertIsInstance(desk.say(line), str)


if __name__ == "__main__":
    unittest.main()
