"""Half planes: tuples (a, b, c) without a common divisor, for all places with a x + b y at least c."""

from math import gcd

from plateheaps.directions import direction
from plateheaps.errors import BadHalf
from plateheaps.fractions import fraction
from plateheaps.kinds import are_numbers
from plateheaps.places import place


def half(a, b, c):
    """Return the half plane of the places for which a x + b y is at least c."""
    if not are_numbers((a, b, c), 3) or a == b == 0:
        raise BadHalf()
    common = gcd(a, b, c)
    return (a // common, b // common, c // common)


def is_half(value):
    if not are_numbers(value, 3) or value[0] == value[1] == 0:
        return False
    return gcd(value[0], value[1], value[2]) == 1


def excess(plane, p):
    """Return a x + b y - c at the place p, times its d, so that it is an integer."""
    return plane[0] * p[0] + plane[1] * p[1] - plane[2] * p[2]


def has(plane, p):
    return excess(plane, p) >= 0


def on_line(plane, p):
    return excess(plane, p) == 0


def facing(plane):
    """Return the half plane on the other side of the same line."""
    return (-plane[0], -plane[1], -plane[2])


def normal(plane):
    return direction(plane[0], plane[1])


def crossing(one, other):
    """Return the place on the lines of both half planes, None if they are parallel or one line."""
    down = one[0] * other[1] - other[0] * one[1]
    if down == 0:
        return None
    return place(one[2] * other[1] - other[2] * one[1], one[0] * other[2] - other[0] * one[2], down)


def height(u, p):
    """Return the height of the place p along u, a fraction."""
    return fraction(u[0] * p[0] + u[1] * p[1], p[2])


def half_from(u, h):
    """Return the half plane of the places whose height along u is at least h."""
    return half(u[0] * h[1], u[1] * h[1], h[0])


def half_at(u, p):
    """Return the half plane of the places whose height along u is at least that of p."""
    return half(u[0] * p[2], u[1] * p[2], u[0] * p[0] + u[1] * p[1])
