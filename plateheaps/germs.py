"""Looks of heaps just beside a place, direction by direction."""

from plateheaps.directions import towards
from plateheaps.heaps import look
from plateheaps.places import turn
from plateheaps.plates import has_place, ways
from plateheaps.rounds import round_at, round_of


def goes_on(plate, p):
    """Return the closed arcs (u, v) of the directions in which a plate goes on from a place.

    (None, None) stands for all directions.
    """
    if len(plate) == 1 or not has_place(plate, p):
        return []
    if len(plate) == 2:
        return [(towards(p, q), towards(p, q)) for q in plate if q != p]
    here = [(q, r) for q, r in ways(plate) if turn(q, r, p) == 0]
    if len(here) == 0:
        return [(None, None)]
    # Within a side both ways lie along it; at a corner one along each of its two sides.
    onward = [towards(p, r) for q, r in here if r != p]
    backward = [towards(p, q) for q, r in here if q != p]
    return [(onward[0], backward[0])]


def germ(heap, p):
    """Return the round of the looks just beside a place."""
    pairs = [(arc, weight) for plate, weight in heap.rows() for arc in goes_on(plate, p)]
    return round_of([(arc[0], arc[1], weight) for arc, weight in pairs])


def off(heap, p, u):
    """Return the look just beside a place in a direction."""
    return round_at(germ(heap, p), u)


def rim(heap, p):
    """Tell whether the look just beside a place is somewhere another one than at the place."""
    here = look(heap, p)
    return not all([at == behind == here for u, at, behind in germ(heap, p)])
