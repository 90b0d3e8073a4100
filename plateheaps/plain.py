"""Heaps made of tables, and places at which heaps look unlike."""

from plateheaps.cells import MOST_CELLS, cells_of, inner
from plateheaps.errors import BadTable
from plateheaps.halfplanes import height
from plateheaps.plates import hull
from plateheaps.stains import heap_of_cells, plates_of_both
from plateheaps.tables import changes_at_breaks, judge_table, look_by, table


def edges_of(told):
    """Return the list of the stretches, each once, outside of which the look by a table does not change."""
    found = {}
    changes = changes_at_breaks(told)
    for u in changes:
        # On a line across the break the changes add up to 0, so that there is none beyond them.
        lines = {}
        for p, change in changes[u]:
            if change != 0:
                lines.setdefault(height(u, p), []).append(p)
        for h in lines:
            found[hull(lines[h])] = True
    return list(found)


def heap_of(told):
    """Return a heap whose table this is."""
    fault = judge_table(told)
    if fault == ("form",):
        raise BadTable(None, None)
    if fault is not None:
        raise BadTable(fault[1], fault[2])
    plates = [(p,) for p, arcs in told] + edges_of(told)
    cut = cells_of([(plate, 1) for plate in plates], None)
    return heap_of_cells(cut, [look_by(told, inner(cell)) for cell in cut])


def plain(heap):
    """Return the same heap for all heaps that are alike, alike to them."""
    return heap_of(table(heap))


def unlike_place(one, other):
    """Return a place at which the looks of two heaps are unlike, None if the heaps are alike."""
    rows = [(plate, one.weight(plate) - other.weight(plate)) for plate in plates_of_both(one, other)]
    for cell in cells_of(rows, MOST_CELLS):
        if cell[2] != 0:
            return inner(cell)
    return None
