"""What several tests use: values of the wrong kind, numbers and places to go through."""

from fractions import Fraction


class Unlike:
    """An object that the package knows nothing of."""


def odd_values():
    """Return values of all kinds that are no tuple of integers, new ones each time."""
    return [
        None, True, False, 0, 1, -1, 10 ** 39, "", "a", "(1, 2)", "(1, 2, 3)", [], [1, 2], [1, 2, 1], {}, {1: 2},
        {(1, 2): 3}, (), (None,), ((),), ("1", "2"), ("1", "2", "3"), (1, None), (1, 2, None), (None, 2, 1),
        ([1], 2), ([1, 2, 1],), (1, [2], 1), ({}, 1), ({}, 1, 1), ((1, 2), 1), (1, (2, 1)), ((1, 2, 1),) * 2,
        (True, False), (True, 2), (1, True), (False, 1), (True, 0, 1), (0, True, 1), (1, 2, True), (False, False, True),
        (1,), (1, 2, 3, 4), "\t\n ~", Unlike,
    ]


def odd_numbers():
    """Return values of all kinds that are no integer."""
    return [None, True, False, "", "1", (), (1,), [], [1], {}, {1: 1}, ((1, 2), [3])]


NUMBERS = (0, 1, -1, 2, -2, 3, -7, 12, 10 ** 9 - 1, -(10 ** 9 - 1), 10 ** 40)


def small_directions():
    """Return all directions of numbers from -3 to 3, in round order from (1, 0) on."""
    upper = [(1, 0), (3, 1), (2, 1), (3, 2), (1, 1), (2, 3), (1, 2), (1, 3)]
    right = upper + [(-b, a) for a, b in upper]
    return right + [(-a, -b) for a, b in right]


def small_places():
    """Return all places with coordinates from -1 to 1 in steps of a half, ascending."""
    steps = [Fraction(k, 2) for k in range(-2, 3)]
    return [as_place(x, y) for x in steps for y in steps]


def as_place(x, y):
    """Return the place with two coordinates, each a Fraction or an integer."""
    down = (Fraction(x).denominator * Fraction(y).denominator)
    for d in range(1, down + 1):
        if (x * d) == int(x * d) and (y * d) == int(y * d):
            return (int(x * d), int(y * d), d)
    raise AssertionError("each product of denominators will do")


def at(p):
    """Return both coordinates of a place as Fractions."""
    return Fraction(p[0], p[2]), Fraction(p[1], p[2])
