"""Plates: tuples of corners, counterclockwise, the least one first."""

from plateheaps.directions import back, quarter, towards
from plateheaps.errors import NoPlaces
from plateheaps.fractions import is_less
from plateheaps.halfplanes import has, height
from plateheaps.places import ascending, comes_first, is_place, turn


def left_turns(row):
    """Return the least chain of the row's places, from end to end, that turns left alone."""
    path = []
    for p in row:
        while len(path) > 1 and turn(path[-2], path[-1], p) < 1:
            path.pop()
        path.append(p)
    return path


def hull(places):
    """Return the least plate that has all the places."""
    if len(places) == 0:
        raise NoPlaces()
    row = ascending(places)
    once = [p for k, p in enumerate(row) if k == 0 or p != row[k - 1]]
    if len(once) == 1:
        return (once[0],)
    # Each chain ends with the place at which the other one begins.
    return tuple(left_turns(once)[:-1] + left_turns(once[::-1])[:-1])


def is_plate(value):
    if not isinstance(value, tuple) or len(value) == 0:
        return False
    if not all([is_place(part) for part in value]):
        return False
    return hull(value) == value


def ways(plate):
    """Return the list of the pairs of a corner and the next one, of a stretch there and back."""
    return list(zip(plate, plate[1:] + plate[:1]))


def has_place(plate, p):
    if len(plate) == 1:
        return plate[0] == p
    for q, r in ways(plate):
        if turn(q, r, p) < 0:
            return False
    if len(plate) > 2:
        return True
    return not comes_first(p, plate[0]) and not comes_first(plate[1], p)


def sides(plate):
    """Return the list of the sides (outer normal, p, q), q the corner next to p."""
    if len(plate) == 1:
        return []
    return [(back(quarter(towards(p, q))), p, q) for p, q in ways(plate)]


def top(plate, u):
    """Return the greatest height of the plate's places along u."""
    best = height(u, plate[0])
    for p in plate[1:]:
        reached = height(u, p)
        if is_less(best, reached):
            best = reached
    return best


def bottom(plate, u):
    """Return the least height of the plate's places along u."""
    depth = top(plate, back(u))
    return (-depth[0], depth[1])


def farthest(plate, u):
    """Return the list of the corners that are highest along u, counterclockwise."""
    best = top(plate, u)
    found = [p for p in plate if height(u, p) == best]
    if len(found) == 2 and towards(found[0], found[1]) != quarter(u):
        return found[::-1]
    return found


def is_met(plate, plane):
    """Tell whether the half plane has a place of the plate: so it has a corner."""
    for p in plate:
        if has(plane, p):
            return True
    return False
