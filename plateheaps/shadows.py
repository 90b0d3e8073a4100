"""Shadows of heaps: what lines across a direction meet, height by height."""

from plateheaps.plates import bottom, top
from plateheaps.steps import bottoms_of, steps_of, tops_of


def shadow(heap, u):
    """Return the steps of the plates' stretches of heights along u."""
    return steps_of([(bottom(plate, u), top(plate, u), weight) for plate, weight in heap.rows()])


def tops(heap, u):
    return tops_of(shadow(heap, u))


def bottoms(heap, u):
    return bottoms_of(shadow(heap, u))
