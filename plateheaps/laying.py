"""How plates are laid: cut, met, put to one another, mirrored, led by maps, their insides."""

from math import gcd

from plateheaps.directions import back, towards
from plateheaps.halfplanes import excess, half_at
from plateheaps.kinds import are_numbers
from plateheaps.places import moved, place, scaled
from plateheaps.plates import has_place, hull, sides, ways


def cut_off(plane, p, q):
    """Return the place on the half plane's line between p and q, which lie on unlike sides of it."""
    over, under = excess(plane, p), excess(plane, q)
    return place(over * q[0] - under * p[0], over * q[1] - under * p[1], over * q[2] - under * p[2])


def cuts(plate, plane):
    """Return the list of the places, no corners, at which sides of the plate cross the half plane's line."""
    over = [excess(plane, p) for p in plate]
    return [cut_off(plane, plate[k - 1], plate[k]) for k in range(len(plate)) if over[k - 1] * over[k] < 0]


def cut_plate(plate, plane):
    """Return the plate of the places that the plate and the half plane both have, None if there are none."""
    kept = [p for p in plate if excess(plane, p) >= 0]
    if len(kept) == len(plate):
        return plate
    if len(kept) == 0:
        return None
    return hull(kept + cuts(plate, plane))


def bounds(plate):
    """Return half planes that together have the places of the plate, which is no point, alone."""
    found = [half_at(back(u), p) for u, p, q in sides(plate)]
    if len(plate) > 2:
        return found
    along = towards(plate[0], plate[1])
    return found + [half_at(along, plate[0]), half_at(back(along), plate[1])]


def meet(one, other):
    """Return the plate of the places that both plates have, None if there are none."""
    if len(one) == 1 or len(other) == 1:
        small, great = (one, other) if len(one) == 1 else (other, one)
        return small if has_place(great, small[0]) else None
    left = one
    for plane in bounds(other):
        left = cut_plate(left, plane)
        if left is None:
            return None
    return left


def ways_on(plate):
    """Return pairs of integers that lead, up to their size, from each corner to the next one."""
    return [(q[0] * p[2] - p[0] * q[2], q[1] * p[2] - p[1] * q[2]) for p, q in ways(plate)]


def leads_first(u, v):
    """Tell whether u comes ahead of v counterclockwise from straight down, which itself comes last."""
    if (u > (0, 0)) != (v > (0, 0)):
        return u > (0, 0)
    return u[0] * v[1] > u[1] * v[0]


def put(one, other):
    """Return the plate of all sums of a place of the one and a place of the other."""
    if len(one) == 1 or len(other) == 1:
        return tuple([moved(p, q) for p in one for q in other])
    # From the least corner on, where the least ones come together, the sides of both
    # follow one another by their directions; those of one direction become one side.
    left, right = ways_on(one), ways_on(other)
    found = []
    k = n = 0
    while k < len(left) or n < len(right):
        found.append(moved(one[k % len(one)], other[n % len(other)]))
        if n == len(right) or (k < len(left) and leads_first(left[k], right[n])):
            k += 1
        elif k == len(left) or leads_first(right[n], left[k]):
            n += 1
        else:
            k += 1
            n += 1
    return tuple(found)


def mirror(plate):
    """Return the plate of the opposite places."""
    return hull([scaled(p, -1, 1) for p in plate])


def is_map(value):
    if not are_numbers(value, 7) or value[6] < 1:
        return False
    a, b, c, d, e, f, n = value
    return gcd(a, b, c, d, e, f, n) == 1


def led_place(p, leading):
    """Return the place to which a map leads a place."""
    a, b, c, d, e, f, n = leading
    x, y, down = p
    return place(a * x + b * y + e * down, c * x + d * y + f * down, n * down)


def led(plate, leading):
    """Return the plate of all places to which a map leads the plate's places."""
    return hull([led_place(p, leading) for p in plate])


def inside(plate):
    """Return the pairs (plate, weight) that add up to 1 inside the plate, to 0 elsewhere."""
    points = [((p,), 1) for p in plate]
    if len(plate) == 1:
        return points
    if len(plate) == 2:
        return [(plate, 1)] + [(point, -1) for point, weight in points]
    return [(plate, 1)] + [(hull([p, q]), -1) for p, q in ways(plate)] + points
