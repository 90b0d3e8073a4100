"""Places: tuples (x, y, d) without a common divisor, d from 1 on, at x / d and y / d."""

from math import gcd

from plateheaps.errors import BadPlace
from plateheaps.kinds import are_numbers


def place(x, y, d):
    """Return the place with the coordinates x / d and y / d."""
    if not are_numbers((x, y, d), 3) or d == 0:
        raise BadPlace()
    common = gcd(x, y, d)
    if d < 0:
        common = -common
    return (x // common, y // common, d // common)


def place_of(x, y):
    """Return the place with these coordinates, fractions."""
    return place(x[0] * y[1], y[0] * x[1], x[1] * y[1])


def is_place(value):
    return are_numbers(value, 3) and value[2] > 0 and gcd(value[0], value[1], value[2]) == 1


def comes_first(p, q):
    """Tell whether p stands ahead of q: by the first coordinates, then by the second ones."""
    here = (p[0] * q[2], p[1] * q[2])
    there = (q[0] * p[2], q[1] * p[2])
    return here < there


def moved(p, q):
    """Return the place whose coordinates are the sums of those of p and q."""
    return place(p[0] * q[2] + q[0] * p[2], p[1] * q[2] + q[1] * p[2], p[2] * q[2])


def apart(p, q):
    """Return the place whose coordinates are those of p less those of q."""
    return place(p[0] * q[2] - q[0] * p[2], p[1] * q[2] - q[1] * p[2], p[2] * q[2])


def scaled(p, m, n):
    """Return the place whose coordinates are those of p times m / n; n is not 0."""
    return place(p[0] * m, p[1] * m, p[2] * n)


def turn(p, q, r):
    """Return 1 if r lies on the left of the line from p to q, -1 on the right, else 0."""
    # As each d is above 0, the determinant of the three has the sign of the turn.
    across = p[0] * (q[1] * r[2] - r[1] * q[2])
    along = p[1] * (r[0] * q[2] - q[0] * r[2])
    left = across + along + p[2] * (q[0] * r[1] - r[0] * q[1])
    if left > 0:
        return 1
    if left < 0:
        return -1
    return 0


def fineness(places):
    """Return a number with which place_key puts all these places in order."""
    # Unlike fractions with denominators up to m lie at least 1 / (m m) apart: times
    # m m, rounded down, they are unlike still, and in the same order.
    greatest = max([p[2] for p in places], default=1)
    return greatest * greatest


def place_key(p, fine):
    """Return two integers that stand for the place among those that fineness was told of."""
    return (p[0] * fine // p[2], p[1] * fine // p[2])


def ascending(places):
    """Return the list of the places in their order."""
    fine = fineness(places)
    return sorted(places, key=lambda p: place_key(p, fine))
