"""Heaps taken back: put together with them, others come to a single point."""

from plateheaps.bent import ORIGIN, bends, bent_heap
from plateheaps.heaps import Heap
from plateheaps.places import scaled
from plateheaps.products import arcs_of, laid_together, together_table
from plateheaps.tables import table


def taken_back(heap):
    """Return a heap that takes the heap back."""
    sign, start, moves = bends(heap)
    return bent_heap((sign, scaled(start, -1, 1), [(u, (-length[0], length[1])) for u, length in moves]))


def judge_back(heap, value):
    """Return None if a value is a heap that takes the heap back, else its first fault."""
    if not isinstance(value, Heap):
        return ("form",)
    for u, far in arcs_of(together_table(table(heap), table(value))):
        if far != [(ORIGIN, 1)]:
            return ("tops", u)
    return None


def quotient(one, other):
    """Return a heap that, put together with other, looks alike one."""
    return laid_together(one, taken_back(other))
