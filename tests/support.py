"""What several tests use: values of the wrong kind, numbers and places to go through."""

from fractions import Fraction
from math import lcm


class Unlike:
    """An object that the package knows nothing of."""


def odd_values():
    """Return values of all kinds that are no tuple of integers, new ones each time."""
    return [
        None, True, False, 0, 1, -1, 10 ** 39, "", "a", "(1, 2)", "(1, 2, 3)", [], [1, 2], [1, 2, 1], {}, {1: 2},
        {(1, 2): 3}, (), (None,), ((),), ("1", "2"), ("1", "2", "3"), (1, None), (1, 2, None), (None, 2, 1),
        ([1], 2), ([1, 2, 1],), (1, [2], 1), ({}, 1), ({}, 1, 1), ((1, 2), 1), (1, (2, 1)), ((1, 2, 1),) * 2,
        (True, False), (True, 2), (1, True), (False, 1), (True, 0, 1), (0, True, 1), (1, 2, True), (False, False, True),
        (1,), (1, 2, 3, 4), "\t\n ~", Unlike,
    ]


def odd_numbers():
    """Return values of all kinds that are no integer."""
    return [None, True, False, "", "1", (), (1,), [], [1], {}, {1: 1}, ((1, 2), [3])]


NUMBERS = (0, 1, -1, 2, -2, 3, -7, 12, 10 ** 9 - 1, -(10 ** 9 - 1), 10 ** 40)


def small_directions():
    """Return all directions of numbers from -3 to 3, in round order from (1, 0) on."""
    upper = [(1, 0), (3, 1), (2, 1), (3, 2), (1, 1), (2, 3), (1, 2), (1, 3)]
    right = upper + [(-b, a) for a, b in upper]
    return right + [(-a, -b) for a, b in right]


def small_places():
    """Return all places with coordinates from -1 to 1 in steps of a half, ascending."""
    steps = [Fraction(k, 2) for k in range(-2, 3)]
    return [as_place(x, y) for x in steps for y in steps]


def as_place(x, y):
    """Return the place with two coordinates, each a Fraction or an integer."""
    down = lcm(Fraction(x).denominator, Fraction(y).denominator)
    return (int(x * down), int(y * down), down)


def at(p):
    """Return both coordinates of a place as Fractions."""
    return Fraction(p[0], p[2]), Fraction(p[1], p[2])


def points_of(text):
    """Return the list of the places told by a text such as "0,0 1/2,3"."""
    return [as_place(*[Fraction(part) for part in word.split(",")]) for word in text.split()]


def zoo():
    """Return plates of all kinds by names; the corners stand here as the document orders them."""
    told = {
        "origin": "0,0", "point": "1/2,1", "lone": "-2/3,1/3",
        "flat": "0,0 2,0", "upright": "1,-1 1,3/2", "slant": "-1,-1 2,1", "short": "1/2,1/2 1,0",
        "tri": "0,0 2,0 0,2", "thin": "-1,0 2,1/3 0,1/2", "down": "0,1 1,-1 2,1",
        "box": "0,0 1,0 1,1 0,1", "wide": "-1,-1/2 2,-1/2 2,2 -1,2", "far": "5,5 6,5 5,6",
        "diamond": "-1,1 0,0 1,1 0,2", "five": "-1,0 0,-1 2,0 3/2,3/2 0,1",
        "eight": "-1,0 -1/2,-1 1/2,-1 1,-1/2 1,1/2 1/2,1 -1/2,1 -1,1/2",
    }
    return {name: tuple(points_of(told[name])) for name in told}


def grid():
    """Return the places with coordinates from -2 to 3 in steps of a half, and some more."""
    steps = [Fraction(k, 2) for k in range(-4, 7)]
    return [as_place(x, y) for x in steps for y in steps] + points_of("1/3,1/3 2/3,0 -2/3,1/3 7/5,3/5 1/7,1/7")


def is_in(plate, p):
    """Tell whether a plate has a place, by the corners of triangles: not as the package does."""
    x, y = at(p)
    corners = [at(q) for q in plate]
    if len(corners) == 1:
        return corners[0] == (x, y)
    if len(corners) == 2:
        corners = [corners[0], corners[1], corners[1]]
    for k in range(1, len(corners) - 1):
        if in_triangle(corners[0], corners[k], corners[k + 1], (x, y)):
            return True
    return False


def in_triangle(a, b, c, p):
    """Tell whether p is a mean of a, b and c with weights not below 0; c may be b."""
    ways = [(b[0] - a[0], b[1] - a[1]), (c[0] - a[0], c[1] - a[1]), (p[0] - a[0], p[1] - a[1])]
    whole = ways[0][0] * ways[1][1] - ways[0][1] * ways[1][0]
    if whole == 0:
        along = ways[0][0] * ways[2][0] + ways[0][1] * ways[2][1]
        across = ways[0][0] * ways[2][1] - ways[0][1] * ways[2][0]
        return across == 0 and 0 <= along <= ways[0][0] ** 2 + ways[0][1] ** 2
    first = (ways[2][0] * ways[1][1] - ways[2][1] * ways[1][0]) / whole
    second = (ways[0][0] * ways[2][1] - ways[0][1] * ways[2][0]) / whole
    return first >= 0 and second >= 0 and first + second <= 1


def halves():
    """Return half planes whose lines go along sides, through corners, through and past the zoo's plates."""
    return [
        (1, 0, 0), (-1, 0, 0), (0, 1, 0), (0, -1, 0), (1, 0, 2), (-1, 0, -2), (0, 2, 1), (1, 1, 2), (-1, -1, -2),
        (1, -1, 0), (2, 4, 3), (-2, -4, -3), (3, -2, 1), (1, 1, 12), (-1, -1, -12), (2, -1, -3), (0, 1, 2), (-7, 5, 1),
    ]
