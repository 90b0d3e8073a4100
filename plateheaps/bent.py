"""Bends: how the farthest place goes round of heaps that can be taken back, and heaps made of it."""

from plateheaps.directions import back, in_round_order, is_direction, quarter, towards
from plateheaps.errors import NoUndoing, TooLong
from plateheaps.fractions import fraction, is_fraction, is_less, minus, plus
from plateheaps.heaps import plates_ascending, summed
from plateheaps.kinds import is_number
from plateheaps.laying import inside, mirror, put
from plateheaps.places import apart, is_place, moved, scaled
from plateheaps.plates import hull, sides
from plateheaps.products import arcs_of
from plateheaps.tables import breaks_of, table

ORIGIN = (0, 0, 1)


def length_across(u, p, q):
    """Return the fraction by which quarter(u) is multiplied on the way from p to q, a line across u."""
    x, y, down = apart(q, p)
    return fraction(u[0] * y - u[1] * x, down * (u[0] * u[0] + u[1] * u[1]))


def step_across(u, length):
    """Return the place to which length times quarter(u) leads from (0, 0, 1)."""
    ahead = quarter(u)
    return scaled((ahead[0], ahead[1], 1), length[0], length[1])


def clash(arcs):
    """Return the direction of the first arc whose farthest places are not one, with 1 or -1, else None."""
    for u, far in arcs:
        if len(far) != 1 or far[0][1] not in (1, -1):
            return u
    return None


def bends_by(arcs, breaks):
    """Return the bends of a heap whose table has these arcs and breaks, each arc with one farthest place."""
    places = [far[0][0] for u, far in arcs]
    # The last arc has (1, 0) within it, but if (1, 0) is a break.
    first = places[0] if breaks[:1] == [(1, 0)] else places[-1]
    moves = [(u, length_across(u, places[k - 1], places[k])) for k, u in enumerate(breaks)]
    return (arcs[0][1][0][1], first, moves)


def bends(heap):
    """Return the bends (sign, place, moves) of a heap that can be taken back."""
    told = table(heap)
    arcs = arcs_of(told)
    fault = clash(arcs)
    if fault is not None:
        raise NoUndoing(fault)
    return bends_by(arcs, breaks_of(told))


def is_move(value):
    """Tell whether a value is a pair of a direction and a fraction other than 0."""
    if not isinstance(value, tuple) or len(value) != 2:
        return False
    return is_direction(value[0]) and is_fraction(value[1]) and value[1] != (0, 1)


def are_moves(value):
    """Tell whether a value is a list or tuple of moves whose directions ascend in round order."""
    if not isinstance(value, (list, tuple)) or not all([is_move(part) for part in value]):
        return False
    found = [u for u, length in value]
    return found == in_round_order(found)


def has_bends_form(value):
    if not isinstance(value, tuple) or len(value) != 3:
        return False
    if not is_number(value[0]) or value[0] not in (1, -1):
        return False
    return is_place(value[1]) and are_moves(value[2])


def moved_by_all(steps):
    """Return the place to which all steps together lead from (0, 0, 1)."""
    if len(steps) < 2:
        return steps[0] if len(steps) == 1 else ORIGIN
    # Halves first, so that few sums have long numbers.
    middle = len(steps) // 2
    return moved(moved_by_all(steps[:middle]), moved_by_all(steps[middle:]))


def led_to(moves):
    """Return the place to which all moves together lead from (0, 0, 1)."""
    return moved_by_all([step_across(u, length) for u, length in moves])


def judge_bends(value):
    """Return None if a value is such as bends returns of some heap, else its first fault."""
    if not has_bends_form(value):
        return ("form",)
    end = led_to(value[2])
    return None if end == ORIGIN else ("open", end)


def plate_along(start, lengths):
    """Return the plate with sides of these lengths by outer normals, and start its corner just behind (1, 0)."""
    places = [start]
    for u in in_round_order(list(lengths)):
        # The side with the normal (1, 0) comes last, and leads back to start.
        if u != (1, 0):
            places.append(moved(places[-1], step_across(u, lengths[u])))
    return hull(places)


def closed(moves):
    """Return the dict from outer normals to lengths of these forward moves, and of the one that leads home."""
    lengths = {u: length for u, length in moves}
    end = led_to(moves)
    if end != ORIGIN:
        u = back(quarter(towards(end, ORIGIN)))
        lengths[u] = plus(lengths.get(u, (0, 1)), length_across(u, end, ORIGIN))
    return lengths


def undone(plate):
    """Return the rows of the heap that takes back a plate: its mirror's inside, of a stretch taken away."""
    sign = -1 if len(plate) == 2 else 1
    return [(part, sign * weight) for part, weight in inside(mirror(plate))]


def bent_heap(value):
    """Return a heap with these bends."""
    sign, start, moves = value
    # All moves forward lead as far as all moves backward, turned about, so that one more
    # side makes either a plate; the heap is the one plate, with the other one taken back.
    forward = [(u, length) for u, length in moves if length[0] > 0]
    backward = [(u, (-length[0], length[1])) for u, length in moves if length[0] < 0]
    great = plate_along(start, closed(forward))
    small = plate_along(ORIGIN, closed(backward))
    return summed([(put(great, part), sign * weight) for part, weight in undone(small)])


def one_plate(heap):
    """Return the plate to which, once, a heap is alike, None if there is none."""
    told = table(heap)
    arcs = arcs_of(told)
    if clash(arcs) is not None:
        return None
    sign, start, moves = bends_by(arcs, breaks_of(told))
    if sign == -1 or not all([length[0] > 0 for u, length in moves]):
        return None
    return plate_along(start, {u: length for u, length in moves})


def side_lengths(plate):
    """Return the dict from the outer normals of a plate's sides, in round order, to their lengths."""
    told = {u: length_across(u, p, q) for u, p, q in sides(plate)}
    return {u: told[u] for u in in_round_order(list(told))}


def parted(one, other):
    """Return the plate that, put to one, is other."""
    taken, left = side_lengths(one), side_lengths(other)
    for u in taken:
        if is_less(left.get(u, (0, 1)), taken[u]):
            raise TooLong(u)
        left[u] = minus(left[u], taken[u])
    shape = plate_along(ORIGIN, left)
    return put(shape, (apart(other[0], moved(one[0], shape[0])),))


def stretches(plate):
    """Return the place and stretches that a plate is put together of, or a side without its like."""
    lengths = side_lengths(plate)
    for u in lengths:
        if lengths[u] != lengths.get(back(u), (0, 1)):
            return ("unlike", u)
    found = {hull([ORIGIN, step_across(u, lengths[u])]): True for u in lengths}
    return ("stretches", plate[0], plates_ascending([part for part in found if part[0] == ORIGIN]))
