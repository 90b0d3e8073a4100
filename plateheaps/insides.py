"""Heaps turned inside out."""

from plateheaps.germs import germ
from plateheaps.heaps import look, summed
from plateheaps.laying import inside
from plateheaps.rounds import round_sum


def inside_rows(plate, weight):
    """Return the rows that a row becomes: the plate's inside, of a stretch taken away."""
    times = -weight if len(plate) == 2 else weight
    return [(part, times * sign) for part, sign in inside(plate)]


def inside_out(heap):
    """Return the heap turned inside out; twice turned it looks as before."""
    return summed([row for plate, weight in heap.rows() for row in inside_rows(plate, weight)])


def inside_look(heap, p):
    """Return the look of the heap, turned inside out, at a place."""
    return look(heap, p) - round_sum(germ(heap, p))
