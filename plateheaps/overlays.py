"""Heaps laid over one another, and heaps cut to half planes."""

from plateheaps.errors import TooMany
from plateheaps.halfplanes import facing
from plateheaps.heaps import summed
from plateheaps.laying import cut_plate, meet

MOST_PAIRS = 400


def over(one, other):
    """Return the heap of the meets of all plates, whose looks are the products of the looks."""
    rows = []
    for plate, weight in one.rows():
        for mate, times in other.rows():
            both = meet(plate, mate)
            if both is None:
                continue
            if len(rows) == MOST_PAIRS:
                raise TooMany()
            rows.append((both, weight * times))
    return summed(rows)


def cut(heap, plane):
    """Return the heap cut to a half plane."""
    pairs = [(cut_plate(plate, plane), weight) for plate, weight in heap.rows()]
    return summed([(plate, weight) for plate, weight in pairs if plate is not None])


def cut_line(heap, plane):
    """Return the heap cut to the line of a half plane."""
    return cut(cut(heap, plane), facing(plane))


def cut_open(heap, plane):
    """Return the heap less what is not beyond the line of a half plane."""
    return heap - cut(heap, facing(plane))
