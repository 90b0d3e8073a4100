"""Rounds: functions of directions as tuples of entries (direction, at, behind), in round order.

A function is told as well by its value just ahead of (1, 0), and by how much it rises at
directions and falls behind directions. Sums are made of these.
"""

from plateheaps.directions import comes_ahead, in_round_order, is_direction
from plateheaps.errors import BadRow
from plateheaps.kinds import added_up, is_number


def is_entry(value):
    """Tell whether a value is a tuple of a direction and two integers."""
    if not isinstance(value, tuple) or len(value) != 3:
        return False
    return is_direction(value[0]) and is_number(value[1]) and is_number(value[2])


def judge_round(value):
    """Return None if a value is a round, else its first fault."""
    if not isinstance(value, tuple) or len(value) == 0:
        return ("form",)
    if not all([is_entry(part) for part in value]):
        return ("form",)
    for k in range(1, len(value)):
        if not comes_ahead(value[k - 1][0], value[k][0]):
            return ("order", k)
    if len(value) == 1 and value[0][0] == (1, 0):
        return None
    ahead = value[-1][2]
    for k, (_, here, behind) in enumerate(value):
        if ahead == here == behind:
            return ("same", k)
        ahead = behind
    return None


def turning(base, rises, falls):
    """Return the round that is base just ahead of (1, 0), rises at directions, falls behind directions."""
    risen, fallen = added_up(rises), added_up(falls)
    found = []
    ahead = base
    for u in in_round_order(list(risen) + list(fallen)):
        here = ahead + risen.get(u, 0)
        behind = here - fallen.get(u, 0)
        if not ahead == here == behind:
            found.append((u, here, behind))
        ahead = behind
    return tuple(found) if len(found) > 0 else (((1, 0), base, base),)


def is_arc_row(value):
    """Tell whether a value is a tuple (u, v, weight) of two directions, or None twice, and an integer."""
    if not isinstance(value, tuple) or len(value) != 3 or not is_number(value[2]):
        return False
    if value[0] is None and value[1] is None:
        return True
    return is_direction(value[0]) and is_direction(value[1])


def is_full_ahead(u, v):
    """Tell whether the closed arc from u to v, None for all directions, has those just ahead of (1, 0)."""
    return u is None or comes_ahead(v, u)


def round_of(rows):
    """Return the round of the sum of the rows' closed arcs (u, v, weight), (None, None, weight) for all."""
    for number, row in enumerate(rows):
        if not is_arc_row(row):
            raise BadRow(number)
    base = sum([weight for u, v, weight in rows if is_full_ahead(u, v)])
    rises = [(u, weight) for u, v, weight in rows if u is not None]
    return turning(base, rises, [(v, weight) for u, v, weight in rows if v is not None])


def round_at(rnd, u):
    """Return the value at a direction."""
    ahead = rnd[-1][2]
    for v, here, behind in rnd:
        if v == u:
            return here
        if comes_ahead(u, v):
            return ahead
        ahead = behind
    return ahead


def round_sum(rnd):
    """Return the round sum, to which closed arcs add 1, but all directions 0."""
    return sum([here - behind for _, here, behind in rnd])


def falls_of(rnd):
    """Return the pairs (direction, weight) of how much the function falls behind directions."""
    return [(u, here - behind) for u, here, behind in rnd]


def rises_of(rnd):
    """Return the pairs (direction, weight) of how much the function rises at directions."""
    return [(rnd[k][0], rnd[k][1] - rnd[k - 1][2]) for k in range(len(rnd))]


def added_rounds(one, other):
    """Return the round of the sum of two functions."""
    base = one[-1][2] + other[-1][2]
    return turning(base, rises_of(one) + rises_of(other), falls_of(one) + falls_of(other))


def times_round(rnd, n):
    """Return the round of n times a function."""
    if n == 0:
        return (((1, 0), 0, 0),)
    return tuple([(u, n * here, n * behind) for u, here, behind in rnd])
