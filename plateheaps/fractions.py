"""Fractions: tuples (p, q) without a common divisor, q from 1 on."""

from math import gcd

from plateheaps.kinds import are_numbers


def fraction(p, q):
    """Return the fraction that stands for p / q; q is not 0."""
    common = gcd(p, q)
    if q < 0:
        common = -common
    return (p // common, q // common)


def is_fraction(value):
    return are_numbers(value, 2) and value[1] > 0 and gcd(value[0], value[1]) == 1


def plus(s, t):
    return fraction(s[0] * t[1] + t[0] * s[1], s[1] * t[1])


def minus(s, t):
    return fraction(s[0] * t[1] - t[0] * s[1], s[1] * t[1])


def times_of(s, t):
    return fraction(s[0] * t[0], s[1] * t[1])


def divided(s, t):
    """Return s divided by t, which is not (0, 1)."""
    return fraction(s[0] * t[1], s[1] * t[0])


def is_less(s, t):
    return s[0] * t[1] < t[0] * s[1]


def ascending_fractions(fractions):
    """Return the list of the fractions, each once, ascending."""
    # Unlike fractions with q up to m lie at least 1 / (m m) apart: times m m, rounded
    # down, they are unlike still, and in the same order.
    greatest = max([s[1] for s in fractions], default=1)
    fine = greatest * greatest
    once = {s: True for s in fractions}
    return sorted(list(once), key=lambda s: s[0] * fine // s[1])


def added_fractions(fractions):
    """Return the sum of all the fractions of a list."""
    if len(fractions) < 2:
        return fractions[0] if len(fractions) == 1 else (0, 1)
    # Halves first, so that few sums have long numbers.
    middle = len(fractions) // 2
    return plus(added_fractions(fractions[:middle]), added_fractions(fractions[middle:]))
