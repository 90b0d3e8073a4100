"""[10.2], [10.3], [10.4]: houses, their moments and branches, blame, deeds tried."""

import unittest

from plateheaps.deeds import behind, change, grown
from plateheaps.errors import BadDeed, BadName, HeapError, Missing, NoMoment, NothingDone, TooMany, UnknownName
from plateheaps.heaps import Heap, look
from plateheaps.house import House, blame, tried, would_tell
from support import Dice, great_values, heap_told, odd_values, zoo
from test_deeds import NO_NAMES, no_deeds, rows

TRI, POINT, SEG = ((0, 0, 1), (1, 0, 1), (0, 1, 1)), ((0, 0, 1),), ((0, 0, 1), (1, 1, 1))
ORIGIN = (0, 0, 1)


def lay(name, weight, plate=POINT):
    return ("lay", name, plate, weight)


def spot(k, name="a"):
    """Return a deed that lays a point of its own."""
    return ("lay", name, ((k, 0, 1),), 1)


def all_of(house):
    """Return all that a house tells."""
    names = house.branches()
    states = [house.state_at(k) for k in range(len(house))]
    ways = [(name, house.trail(name), house.place(name)) for name in names]
    return [house.present(), house.here(), house.state(), house.log(), states, ways]


def full_house():
    """Return a house of two hundred moments."""
    house = House()
    for k in range(199):
        house.do(lay("a", 1))
    return house


def forked():
    """Return a house with two branches of which each has moments of its own; it stands in main."""
    house = House()
    house.do(lay("a", 2, TRI))
    house.branch("side")
    house.do(lay("a", 1))
    house.go("side")
    house.do(lay("b", 5))
    house.do(lay("a", -1, TRI))
    house.go("main")
    return house


class HouseCase(unittest.TestCase):
    def refuses(self, house, error, call):
        """See whether a call raises an error and leaves the house as it was; return the error."""
        before, twin = all_of(house), house.twin()
        with self.assertRaises(error) as caught:
            call()
        self.assertIs(type(caught.exception), error)
        self.assertEqual(all_of(house), before)
        self.assertEqual(house, twin)
        return caught.exception


class Doing(HouseCase):
    def test_a_new_house(self):
        house = House()
        self.assertEqual(all_of(house), [0, "main", {}, [], [{}], [("main", [0], 0)]])
        self.assertEqual(len(house), 1)

    def test_deeds_make_moments(self):
        house = House()
        self.assertEqual([house.do(spot(k)) for k in range(4)], [1, 2, 3, 4])
        self.assertEqual(all_of(house)[:2] + all_of(house)[5:], [4, "main", [("main", [0, 1, 2, 3, 4], 4)]])
        self.assertEqual([len(house.state_at(k).get("a", Heap([]))) for k in range(5)], [0, 1, 2, 3, 4])
        self.assertEqual(house.log(), [((k,), spot(k)) for k in range(4)])
        self.assertEqual(len(house), 5)

    def test_undo_and_redo(self):
        house = House()
        for k in range(3):
            house.do(spot(k))
        self.assertEqual([house.undo(), house.undo(), house.undo(), house.state()], [2, 1, 0, {}])
        self.refuses(house, NothingDone, house.undo)
        self.assertEqual([house.redo(), house.redo(), house.redo()], [1, 2, 3])
        self.refuses(house, NothingDone, house.redo)
        self.assertEqual([house.trail("main"), house.place("main"), len(house)], [[0, 1, 2, 3], 3, 4])

    def test_at_the_ends_of_a_new_house(self):
        house = House()
        self.refuses(house, NothingDone, house.undo)
        self.refuses(house, NothingDone, house.redo)

    def test_a_new_deed_behind_an_undo(self):
        house = House()
        for k in range(3):
            house.do(spot(k))
        house.undo()
        house.undo()
        self.assertEqual(house.do(spot(9)), 4)
        self.assertEqual([house.trail("main"), house.place("main"), len(house)], [[0, 1, 4], 2, 5])
        self.refuses(house, NothingDone, house.redo)
        self.assertEqual(house.log()[3], ((1,), spot(9)))
        self.assertEqual(house.state_at(3)["a"], heap_told([("0,0", 1), ("1,0", 1), ("2,0", 1)]))
        self.assertEqual(house.undo(), 1)

    def test_what_behind_raises(self):
        house = forked()
        for value in no_deeds():
            self.refuses(house, BadDeed, lambda: house.do(value))
        for name in NO_NAMES:
            error = self.refuses(house, BadName, lambda: house.do(("put", "a", name)))
            self.assertEqual(repr(error.name), repr(name))
        for k in range(60):
            house.do(spot(k, "c"))
        self.refuses(house, TooMany, lambda: house.do(spot(60, "c")))
        self.refuses(house, TooMany, lambda: house.do(("put", "c", "c")))

    def test_two_hundred_moments_and_one_more(self):
        house = full_house()
        self.assertEqual([len(house), house.present()], [200, 199])
        self.refuses(house, TooMany, lambda: house.do(lay("a", 1)))
        self.refuses(house, BadDeed, lambda: house.do(None))
        self.refuses(house, BadName, lambda: house.do(lay("A", 1)))
        self.refuses(house, TooMany, lambda: house.pick(0))
        self.refuses(house, TooMany, lambda: house.revert(3))
        self.refuses(house, NoMoment, lambda: house.pick(200))
        house.undo()
        self.refuses(house, TooMany, lambda: house.do(lay("a", 1)))
        self.assertEqual(house.redo(), 199)


class Branches(HouseCase):
    def test_a_branch_has_the_trail_up_to_the_place(self):
        house = House()
        for k in range(3):
            house.do(spot(k))
        house.undo()
        self.assertIsNone(house.branch("side"))
        self.assertEqual([house.here(), house.present(), house.branches()], ["main", 2, ["main", "side"]])
        self.assertEqual([house.trail("side"), house.place("side")], [[0, 1, 2], 2])
        self.assertEqual([house.trail("main"), house.place("main")], [[0, 1, 2, 3], 2])
        self.assertEqual(house.go("side"), 2)
        self.refuses(house, NothingDone, house.redo)
        self.assertEqual([house.do(spot(7)), house.trail("side"), house.trail("main")], [4, [0, 1, 2, 4], [0, 1, 2, 3]])
        self.assertEqual([house.go("main"), house.redo(), house.here()], [2, 3, "main"])

    def test_names(self):
        house = forked()
        for name in NO_NAMES + odd_values() + ["main", "side"]:
            if name != "a":
                self.assertEqual(repr(self.refuses(house, BadName, lambda: house.branch(name)).name), repr(name))
        for value in odd_values() + great_values() + ["far", "MAIN", ["main"]]:
            for call in (house.go, house.trail, house.place, house.merge):
                self.assertEqual(repr(self.refuses(house, UnknownName, lambda: call(value)).name), repr(value))

    def test_six_branches_and_seven(self):
        house = House()
        for name in "abcde":
            house.branch(name)
        self.assertEqual(house.branches(), ["main", "a", "b", "c", "d", "e"])
        self.refuses(house, TooMany, lambda: house.branch("f"))
        self.refuses(house, BadName, lambda: house.branch("e"))
        self.refuses(house, BadName, lambda: house.branch("F"))

    def test_in_the_order_in_which_they_came(self):
        house = House()
        for name in ("z", "a", "m"):
            house.branch(name)
        self.assertEqual(house.branches(), ["main", "z", "a", "m"])

    def test_moments(self):
        house = forked()
        for value in odd_values() + great_values() + [-1, 5, len(house), 10 ** 39]:
            if type(value) is int and 0 <= value < 5:
                continue
            for call in (house.state_at, house.pick, house.revert):
                self.assertEqual(repr(self.refuses(house, NoMoment, lambda: call(value)).number), repr(value))
        self.assertEqual(house.state_at(0), {})
        self.assertEqual(house.state_at(4)["b"], heap_told([("0,0", 5)]))

    def test_errors_bear_copies(self):
        house, value = House(), [1, ["a", True]]
        for call, part in ((house.branch, "name"), (house.go, "name"), (house.state_at, "number"), (house.pick, "number")):
            with self.assertRaises((HeapError, Missing)) as caught:
                call(value)
            value[1].append(2)
            self.assertEqual(repr(getattr(caught.exception, part)), "[1, ['a', True]]")
            value[1].pop()


class Merging(HouseCase):
    def test_both_sides_are_added(self):
        house = forked()
        self.assertEqual(house.merge("side"), 5)
        self.assertEqual(house.state(), {"a": Heap([(TRI, 1), (POINT, 1)]), "b": Heap([(POINT, 5)])})
        self.assertEqual(house.log()[4], ((2, 4), ("merge", "side")))
        self.assertEqual([house.trail("main"), house.trail("side"), house.place("main")], [[0, 1, 2, 5], [0, 1, 3, 4], 3])

    def test_whichever_side_merges(self):
        house = forked()
        other = house.twin()
        house.merge("side")
        other.go("side")
        other.merge("main")
        self.assertEqual(house.state(), other.state())
        self.assertEqual(other.log()[4], ((4, 2), ("merge", "main")))

    def test_merges_that_do_nothing(self):
        house = forked()
        house.branch("old")
        house.merge("side")
        before = all_of(house)
        for name in ("main", "side", "old"):
            self.assertEqual(house.merge(name), 5)
        self.assertEqual(all_of(house), before)
        full = full_house()
        full.branch("old")
        self.assertEqual(full.merge("old"), 199)
        self.assertEqual(full.merge("main"), 199)

    def test_the_place_of_a_branch_counts(self):
        house = forked()
        house.go("side")
        house.undo()
        house.go("main")
        self.assertEqual(house.merge("side"), 5)
        self.assertEqual(house.log()[4], ((2, 3), ("merge", "side")))
        self.assertEqual(house.state()["a"], Heap([(TRI, 2), (POINT, 1)]))

    def test_a_moment_that_comes_of_the_present_one(self):
        house = forked()
        house.go("side")
        house.merge("main")
        house.go("main")
        self.assertEqual(house.merge("side"), 6)
        self.assertEqual([house.log()[5], house.state()], [((2, 5), ("merge", "side")), house.state_at(5)])

    def test_behind_a_merge_the_common_moment_is_a_late_one(self):
        house = forked()
        house.merge("side")
        house.go("side")
        house.do(spot(8))
        house.go("main")
        self.assertEqual(house.merge("side"), 7)
        told = Heap([(TRI, 1), (POINT, 1), (((8, 0, 1),), 1)])
        self.assertEqual(house.state(), {"a": told, "b": Heap([(POINT, 5)])})

    def test_several_common_moments(self):
        house = forked()
        house.go("side")
        house.merge("main")
        house.go("main")
        house.do(spot(7))
        house.merge("side")
        house.go("side")
        house.do(spot(8))
        house.go("main")
        house.do(spot(9))
        states = [house.state_at(k) for k in range(len(house))]
        # main stands at 9: elders 0 to 9 but 8; side stands at 8: elders 0 to 5; the greatest both have is 5.
        self.assertEqual([house.present(), house.trail("side")[-1]], [9, 8])
        self.assertEqual(house.merge("side"), 10)
        self.assertEqual(house.state(), grown(states[9], change(states[5], states[8])))
        self.assertEqual(house.state()["a"].rows()[-3:], [(((7, 0, 1),), 1), (((8, 0, 1),), 1), (((9, 0, 1),), 1)])

    def test_criss_cross(self):
        house = forked()
        house.branch("left")
        house.go("side")
        house.branch("right")
        house.merge("main")
        house.go("main")
        house.merge("right")
        states = [house.state_at(k) for k in range(len(house))]
        # 5 is made of 4 and 2, 6 of 2 and 4: both have 0 to 4 for elders.
        self.assertEqual([house.log()[4][0], house.log()[5][0]], [(4, 2), (2, 4)])
        self.assertEqual(house.merge("side"), 7)
        self.assertEqual(house.state(), grown(states[6], change(states[4], states[5])))
        self.assertEqual(house.state(), {"a": states[6]["a"] + Heap([(POINT, 1)]), "b": Heap([(POINT, 5)])})

    def test_caps(self):
        house = House()
        house.branch("side")
        for name in "abcde":
            house.do(lay(name, 1))
        house.go("side")
        for name in "fghi":
            house.do(lay(name, 1))
        self.refuses(house, TooMany, lambda: house.merge("main"))
        house.undo()
        self.assertEqual(len(house.state_at(house.merge("main"))), 8)

    def test_too_many_rows(self):
        house = House()
        house.branch("side")
        for k in range(31):
            house.do(spot(k))
        house.go("side")
        for k in range(40, 69):
            house.do(spot(k))
        twin = house.twin()
        self.assertEqual(len(house.state_at(house.merge("main"))["a"]), 60)
        twin.do(spot(99))
        self.refuses(twin, TooMany, lambda: twin.merge("main"))

    def test_two_hundred_moments(self):
        house = House()
        house.branch("side")
        house.do(lay("b", 1))
        house.go("side")
        for _ in range(198):
            house.do(lay("a", 1))
        self.assertEqual(len(house), 200)
        self.refuses(house, TooMany, lambda: house.merge("main"))
        self.refuses(house, UnknownName, lambda: house.merge("far"))


class PickingAndReverting(HouseCase):
    def test_by_hand(self):
        house = forked()
        self.assertEqual(house.pick(4), 5)
        self.assertEqual(house.state()["a"], Heap([(TRI, 1), (POINT, 1)]))
        self.assertEqual(house.revert(1), 6)
        self.assertEqual(house.state()["a"], Heap([(TRI, -1), (POINT, 1)]))
        self.assertEqual(house.log()[4:], [((2,), ("pick", 4)), ((5,), ("revert", 1))])

    def test_moment_0(self):
        house = forked()
        state = house.state()
        self.assertEqual([house.pick(0), house.revert(0)], [5, 6])
        self.assertEqual([house.state_at(5), house.state_at(6)], [state, state])
        self.assertEqual(house.log()[4:], [((2,), ("pick", 0)), ((5,), ("revert", 0))])

    def test_of_merges(self):
        house = forked()
        house.merge("side")
        self.assertEqual(house.revert(5), 6)
        self.assertEqual(house.state(), house.state_at(2))
        self.assertEqual(house.pick(5), 7)
        self.assertEqual(house.state(), house.state_at(5))

    def test_of_picks_and_reverts(self):
        house = forked()
        house.pick(4)
        house.revert(5)
        house.revert(6)
        self.assertEqual([house.state_at(6), house.state_at(7)], [house.state_at(2), house.state_at(5)])

    def test_what_was_picked_is_gone_in_any_order(self):
        house = forked()
        before = house.state()
        for number in (3, 4, 1):
            house.pick(number)
        for number in (4, 1, 3):
            house.revert(number)
        self.assertEqual(house.state(), before)

    def test_behind_an_undo(self):
        house = forked()
        house.undo()
        self.assertEqual([house.pick(3), house.trail("main")], [5, [0, 1, 5]])

    def test_caps(self):
        house = House()
        house.branch("side")
        for name in "abcdefgh":
            house.do(lay(name, 1))
        house.go("side")
        house.do(lay("i", 1))
        house.go("main")
        self.refuses(house, TooMany, lambda: house.pick(9))
        self.assertEqual(house.do(lay("a", -1)), 10)
        self.assertEqual(len(house.state_at(house.pick(9))), 8)
        self.refuses(house, TooMany, lambda: house.revert(10))

    def test_too_many_rows(self):
        house = House()
        house.do(spot(70))
        house.do(("drop", "a"))
        for k in range(60):
            house.do(spot(k))
        self.refuses(house, TooMany, lambda: house.pick(1))
        self.refuses(house, TooMany, lambda: house.revert(1))
        self.refuses(house, TooMany, lambda: house.revert(2))


class Keeping(HouseCase):
    def test_what_is_told_is_new_each_time(self):
        house = forked()
        house.merge("side")
        before = all_of(house)
        for call in (house.state, lambda: house.state_at(3), house.branches, lambda: house.trail("side"), house.log,
                     lambda: would_tell(house, []), lambda: blame(house, "a", ORIGIN), lambda: tried(house, [])):
            told = call()
            self.assertIsNot(call(), told)
            told.clear()
            self.assertEqual(all_of(house), before)

    def test_what_is_passed_stays(self):
        house, deeds = House(), [lay("a", 1), ("turn", "a")]
        would_tell(house, deeds)
        tried(house, deeds)
        self.assertEqual(deeds, [lay("a", 1), ("turn", "a")])
        deeds.clear()
        self.assertEqual(len(house.log()), 2)

    def test_kinds(self):
        house = forked()
        told = [house.state(), house.branches(), house.trail("main"), house.log(), house.log()[0], house.log()[0][0]]
        self.assertEqual([type(one) for one in told], [dict, list, list, list, tuple, tuple])
        self.assertEqual([type(one) for one in (house.do(lay("a", 1)), house.place("main"), len(house))], [int] * 3)


class Twins(HouseCase):
    def test_a_twin_goes_its_own_way(self):
        house = forked()
        twin = house.twin()
        self.assertEqual(house, twin)
        before = all_of(house)
        twin.do(lay("a", 1))
        self.assertNotEqual(house, twin)
        twin.branch("more")
        twin.go("side")
        twin.undo()
        twin.merge("main")
        self.assertEqual(all_of(house), before)
        after = all_of(twin)
        house.go("side")
        house.do(lay("b", 1))
        house.branch("other")
        self.assertEqual(all_of(twin), after)

    def test_equal_by_logs_branches_and_where_they_stand(self):
        one, other = forked(), forked()
        self.assertTrue(one == other)
        self.assertFalse(one != other)
        other.undo()
        self.assertFalse(one == other)
        other.redo()
        self.assertTrue(one == other)
        other.go("side")
        self.assertFalse(one == other)
        other.go("main")
        other.branch("more")
        self.assertFalse(one == other)

    def test_the_order_and_the_names_of_branches(self):
        houses = []
        for names in (("a", "b"), ("b", "a"), ("a", "c"), ("a", "b")):
            house = House()
            for name in names:
                house.branch(name)
            houses.append(house)
        self.assertEqual([house == houses[0] for house in houses], [True, False, False, True])

    def test_logs_count_not_states(self):
        one, other = House(), House()
        one.do(lay("a", 0))
        other.do(lay("b", 0))
        self.assertEqual(one.state(), other.state())
        self.assertFalse(one == other)
        one, other = House(), House()
        one.do(lay("a", 1))
        other.do(lay("a", 1))
        one.undo()
        other.undo()
        one.do(lay("a", 2))
        other.do(lay("a", 2))
        self.assertTrue(one == other)

    def test_nothing_else_is_equal(self):
        for value in odd_values() + [House().log(), Heap([]), House]:
            self.assertFalse(House() == value)


class Blame(HouseCase):
    def test_by_hand(self):
        house = House()
        house.do(lay("a", 2, TRI))
        house.do(lay("b", 5))
        house.do(lay("a", 1))
        house.do(lay("a", 4, ((5, 5, 1),)))
        house.do(("drop", "a"))
        self.assertEqual(blame(house, "a", ORIGIN), [(1, 2), (3, 1), (5, -3)])
        self.assertEqual(blame(house, "b", ORIGIN), [(2, 5)])
        self.assertEqual(blame(house, "a", (5, 5, 1)), [(4, 4), (5, -4)])
        self.assertEqual(blame(house, "a", (1, 1, 4)), [(1, 2), (5, -2)])
        self.assertEqual([blame(house, "c", ORIGIN), blame(house, "a", (9, 9, 1)), blame(House(), "a", ORIGIN)], [[], [], []])
        house.undo()
        self.assertEqual(blame(house, "a", ORIGIN), [(1, 2), (3, 1)])

    def test_along_first_elders_alone(self):
        house = forked()
        house.do(lay("a", 9))
        self.assertEqual(house.merge("side"), 6)
        self.assertEqual(blame(house, "a", ORIGIN), [(1, 2), (2, 1), (5, 9), (6, -1)])
        self.assertEqual(blame(house, "b", ORIGIN), [(6, 5)])
        house.go("side")
        house.merge("main")
        self.assertEqual(blame(house, "a", ORIGIN), [(1, 2), (4, -1), (7, 10)])

    def test_all_d_together_are_the_look(self):
        house = forked()
        house.merge("side")
        house.pick(1)
        house.revert(2)
        for name in ("a", "b", "c"):
            for p in (ORIGIN, (1, 1, 4), (1, 0, 1)):
                told = blame(house, name, p)
                self.assertEqual(sum(d for _, d in told), look(house.state().get(name, Heap([])), p))
                self.assertEqual(told, sorted(told))
                self.assertTrue(all(d != 0 for _, d in told))

    def test_bad_names(self):
        house = forked()
        for name in NO_NAMES + odd_values():
            if name != "a":
                self.assertEqual(repr(self.refuses(house, BadName, lambda: blame(house, name, ORIGIN)).name), repr(name))

    def test_the_house_stays(self):
        house = forked()
        before = all_of(house)
        blame(house, "a", ORIGIN)
        self.assertEqual(all_of(house), before)


class Trying(HouseCase):
    def test_would_tell(self):
        house = forked()
        before = all_of(house)
        deeds = [lay("a", 5), ("turn", "a"), ("put", "b", "a"), ("drop", "a")]
        told = would_tell(house, deeds)
        self.assertEqual(all_of(house), before)
        for deed in deeds:
            house.do(deed)
        self.assertEqual(told, house.state())
        self.assertEqual(would_tell(house, []), house.state())
        self.assertEqual(would_tell(house, ()), house.state())

    def test_tried(self):
        house = forked()
        twin = house.twin()
        deeds = [lay("a", 5), ("turn", "a"), ("put", "b", "a"), ("drop", "a")]
        self.assertEqual(tried(house, tuple(deeds)), [5, 6, 7, 8])
        self.assertEqual([twin.do(deed) for deed in deeds], [5, 6, 7, 8])
        self.assertEqual(house, twin)
        self.assertEqual([tried(house, []), tried(house, ())], [[], []])

    def test_a_deed_in_the_middle_cannot_be_done(self):
        house = forked()
        for call in (tried, would_tell):
            self.refuses(house, BadDeed, lambda: call(house, [lay("a", 5), ("turn",), lay("A", 1)]))
            error = self.refuses(house, BadName, lambda: call(house, [lay("a", 5), lay("A", 1), ("turn",)]))
            self.assertEqual(error.name, "A")
            many = [spot(k, "c") for k in range(61)]
            self.refuses(house, TooMany, lambda: call(house, many))
            self.assertEqual(len(would_tell(house, many[:60])["c"]), 60)
            for value in odd_values():
                self.refuses(house, BadDeed, lambda: call(house, [lay("a", 1), value]))

    def test_they_do_deeds_alone(self):
        house = forked()
        for call in (tried, would_tell):
            for value in (("merge", "side"), ("pick", 1), ("revert", 1), "undo", ("undo",)):
                self.refuses(house, BadDeed, lambda: call(house, [value]))

    def test_up_to_two_hundred_moments(self):
        house = full_house()
        self.assertEqual([would_tell(house, []), tried(house, [])], [house.state(), []])
        self.refuses(house, TooMany, lambda: tried(house, [lay("a", 1)]))
        small = House()
        for _ in range(197):
            small.do(lay("a", 1))
        self.refuses(small, TooMany, lambda: tried(small, [lay("a", 1)] * 3))
        self.refuses(small, TooMany, lambda: would_tell(small, [lay("a", 1)] * 3))
        self.assertEqual(tried(small, [lay("a", 1)] * 2), [198, 199])

    def test_from_a_place_within_the_trail(self):
        house = forked()
        house.undo()
        self.assertEqual(tried(house, [lay("c", 1)]), [5])
        self.assertEqual(house.trail("main"), [0, 1, 5])


class Model:
    """A house told slowly: elders by sets, states made anew from the log each time."""

    def __init__(self):
        self.log = []
        self.ways = {"main": ([0], 0)}
        self.at = "main"

    def now(self):
        trail, place = self.ways[self.at]
        return trail[place]

    def elders(self, number):
        found = {number}
        if number:
            for elder in self.log[number - 1][0]:
                found |= self.elders(elder)
        return found

    def state(self, number):
        if number == 0:
            return {}
        elders, deed = self.log[number - 1]
        first = self.state(elders[0])
        if deed[0] == "merge":
            common = max(self.elders(elders[0]) & self.elders(elders[1]))
            return grown(first, change(self.state(common), self.state(elders[1])))
        if deed[0] in ("pick", "revert"):
            more = self.changed(deed[1])
            return grown(first, more) if deed[0] == "pick" else change(more, first)
        return behind(first, deed)

    def changed(self, number):
        return change(self.state(self.log[number - 1][0][0]), self.state(number)) if number else {}

    def add(self, elders, deed):
        trail, place = self.ways[self.at]
        self.log.append((elders, deed))
        self.ways[self.at] = (trail[:place + 1] + [len(self.log)], place + 1)
        return len(self.log)

    def move(self, by):
        trail, place = self.ways[self.at]
        if not 0 <= place + by < len(trail):
            raise NothingDone()
        self.ways[self.at] = (trail, place + by)
        return self.now()

    def merge(self, name):
        trail, place = self.ways[name]
        if trail[place] in self.elders(self.now()):
            return self.now()
        return self.add((self.now(), trail[place]), ("merge", name))

    def branch(self, name):
        trail, place = self.ways[self.at]
        self.ways[name] = (trail[:place + 1], place)

    def go(self, name):
        self.at = name
        return self.now()


class AllTogether(HouseCase):
    def step(self, dice, house, model):
        """Do something, the same in both, and see whether both answer the same."""
        kind = dice.throw(0, 9)
        number = dice.throw(0, len(house) - 1)
        name = house.branches()[dice.throw(0, len(house.branches()) - 1)]
        if kind < 4:
            sheet, other = "abc"[dice.throw(0, 2)], "abc"[dice.throw(0, 2)]
            plate = list(zoo().values())[dice.throw(0, 9)]
            deed = [("lay", sheet, plate, dice.throw(-2, 2)), ("add", sheet, other, dice.throw(-1, 1)), ("drop", sheet), spot(number)][kind]
            self.assertEqual(house.do(deed), model.add((model.now(),), deed))
        elif kind == 4:
            self.assertEqual(house.merge(name), model.merge(name))
        elif kind == 5:
            self.assertEqual(house.pick(number), model.add((model.now(),), ("pick", number)))
        elif kind == 6:
            self.assertEqual(house.revert(number), model.add((model.now(),), ("revert", number)))
        elif kind == 7:
            self.assertEqual(house.go(name), model.go(name))
        elif kind == 8 and len(house.branches()) < 6:
            told = "stuvwx"[len(house.branches()) - 1]
            house.branch(told)
            model.branch(told)
        else:
            self.turn(dice.throw(0, 1), house, model)

    def turn(self, onward, house, model):
        try:
            told = model.move(1 if onward else -1)
        except NothingDone:
            self.refuses(house, NothingDone, house.redo if onward else house.undo)
        else:
            self.assertEqual(house.redo() if onward else house.undo(), told)

    def test_as_the_model_tells(self):
        for seed in range(8):
            dice, house, model = Dice(900 + seed), House(), Model()
            for _ in range(28):
                self.step(dice, house, model)
                self.assertEqual(house.log(), model.log)
                self.assertEqual([house.present(), house.here(), len(house)], [model.now(), model.at, len(model.log) + 1])
                self.assertEqual([(name, (house.trail(name), house.place(name))) for name in house.branches()], list(model.ways.items()))
                self.assertEqual(house.state(), model.state(model.now()))
                self.assertEqual(list(house.state()), sorted(house.state()))


if __name__ == "__main__":
    unittest.main()
