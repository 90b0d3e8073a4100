"""Directions: tuples (a, b) without a common divisor, not both 0."""

from math import gcd

from plateheaps.errors import BadDirection
from plateheaps.kinds import are_numbers


def direction(a, b):
    """Return the direction in which the place with the coordinates a, b lies from 0, 0."""
    if not are_numbers((a, b), 2) or a == b == 0:
        raise BadDirection()
    common = gcd(a, b)
    return (a // common, b // common)


def is_direction(value):
    # The common divisor of 0 and 0 is told as 0, so these two are no direction.
    return are_numbers(value, 2) and gcd(value[0], value[1]) == 1


def back(u):
    return (-u[0], -u[1])


def quarter(u):
    """Return u turned counterclockwise by a quarter."""
    return (-u[1], u[0])


def towards(p, q):
    """Return the direction in which the place q lies from another one, p."""
    return direction(q[0] * p[2] - p[0] * q[2], q[1] * p[2] - p[1] * q[2])


def is_upper(u):
    """Tell whether u stands in the first half of the round, from (1, 0) to ahead of (-1, 0)."""
    return u[1] > 0 or (u[1] == 0 and u[0] > 0)


def leaning(u, v):
    """Return a number above 0 if v lies less than half a round behind u, below 0 if more."""
    return u[0] * v[1] - u[1] * v[0]


def comes_ahead(u, v):
    """Tell whether u stands ahead of v in round order: counterclockwise, from (1, 0) on."""
    if is_upper(u) != is_upper(v):
        return is_upper(u)
    return leaning(u, v) > 0


def in_arc(u, v, w):
    """Tell whether w is in the arc counterclockwise from u to v, both left out."""
    if comes_ahead(u, v):
        return comes_ahead(u, w) and comes_ahead(w, v)
    # The arc goes over (1, 0), where round order begins anew, or, if u is v, all round.
    return comes_ahead(u, w) or comes_ahead(w, v)


def between(u, v):
    """Return a direction in the arc from u to v."""
    if u == v:
        return back(u)
    if v == back(u):
        return quarter(u)
    middle = direction(u[0] + v[0], u[1] + v[1])
    if leaning(u, v) < 0:
        return back(middle)
    return middle


def round_key(u, fine):
    """Return three integers that stand for the direction in round order; in_round_order tells fine."""
    a, b = u
    turned = 0 if is_upper(u) else 1
    return (turned, 0, 0) if b == 0 else (turned, 1, -a * fine // b)


def in_round_order(directions):
    """Return the list of the directions, each once, in round order."""
    # In each half of the round a / b falls; fine tells two such fractions apart when rounded.
    greatest = max([abs(u[1]) for u in directions], default=0)
    fine = greatest * greatest
    once = {u: True for u in directions}
    return sorted(list(once), key=lambda u: round_key(u, fine))
