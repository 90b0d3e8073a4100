"""What half planes and lines meet of heaps, and looks worked back from it."""

from plateheaps.directions import back, leaning, quarter, towards
from plateheaps.halfplanes import facing
from plateheaps.plates import has_place, is_met
from plateheaps.rounds import round_of, round_sum


def half_sum(heap, plane):
    """Return the sum of the weights of the plates that meet a half plane."""
    return sum([weight for plate, weight in heap.rows() if is_met(plate, plane)])


def line_sum(heap, plane):
    """Return the sum of the weights of the plates that meet the line of a half plane."""
    # A plate with places on both sides, or on the line, has one on the line.
    beyond = facing(plane)
    return sum([weight for plate, weight in heap.rows() if is_met(plate, plane) and is_met(plate, beyond)])


def met_around(plate, p):
    """Return the ends of the closed arc of the directions in which half planes from p on meet the plate.

    They are (None, None) for all directions.
    """
    if has_place(plate, p):
        return (None, None)
    # Seen from a place outside, all corners lie within less than half a round.
    first = last = towards(p, plate[0])
    for q in plate[1:]:
        u = towards(p, q)
        if leaning(u, first) > 0:
            first = u
        elif leaning(last, u) > 0:
            last = u
    return (back(quarter(first)), quarter(last))


def around(heap, p):
    """Return the round of what the half planes from p on meet, direction by direction."""
    rows = []
    for plate, weight in heap.rows():
        u, v = met_around(plate, p)
        rows.append((u, v, weight))
    return round_of(rows)


def looked_back(heap, p):
    """Return the look at a place, worked back from the half planes from it on."""
    return heap.total() - round_sum(around(heap, p))
