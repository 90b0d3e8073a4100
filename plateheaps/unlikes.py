"""Likeness of heaps, and the half planes that tell unlike ones apart."""

from plateheaps.directions import back, between, in_arc, in_round_order, quarter, towards
from plateheaps.halfplanes import half_at, is_half
from plateheaps.halves import half_sum
from plateheaps.places import ascending
from plateheaps.plates import farthest, hull, sides
from plateheaps.products import arcs_of
from plateheaps.tables import breaks_of, table


def are_alike(one, other):
    """Tell whether two heaps look alike at every place."""
    return table(one) == table(other)


def next_behind(u, directions):
    """Return the one of the directions that comes first counterclockwise from u; u if there is no other."""
    found = u
    for v in directions:
        if in_arc(u, found, v):
            found = v
    return found


def unlike(one, other):
    """Return a half plane that does not meet as much of the one heap as of the other, None if they are alike."""
    told = table(one - other)
    if len(told) == 0:
        return None
    u, far = [pair for pair in arcs_of(told) if len(pair[1]) > 0][0]
    # Just behind u, up to the next break, the heaps' difference has these farthest places;
    # up to the next normal of their hull, too, one of them alone is the highest.
    shape = hull([p for p, weight in far])
    limits = breaks_of(told) + [outer for outer, p, q in sides(shape)]
    w = between(u, next_behind(u, limits))
    return half_at(w, farthest(shape, w)[0])


def judge_unlike(one, other, value):
    """Return None if a value is a half plane that tells two heaps apart, else its first fault."""
    if not is_half(value):
        return ("form",)
    if half_sum(one, value) == half_sum(other, value):
        return ("same",)
    return None


def across_pairs(places):
    """Return both directions square to the line through each two of the places."""
    found = []
    for k, p in enumerate(places):
        for q in places[:k]:
            u = quarter(towards(p, q))
            found.extend([u, back(u)])
    return found


def testing(heaps):
    """Return the half planes, ascending, that together tell whether any two of the heaps are alike."""
    tables = [table(heap) for heap in heaps]
    once = {p: True for told in tables for p, arcs in told}
    places = ascending(list(once))
    breaks = [u for told in tables for u in breaks_of(told)]
    limits = in_round_order(breaks + across_pairs(places)) or [(1, 0)]
    middles = [between(limits[k - 1], limits[k]) for k in range(len(limits))]
    planes = {half_at(u, p): True for u in middles for p in places}
    return sorted(list(planes))
