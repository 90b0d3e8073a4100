"""Looks along lines, and heaps swept by the lines across a direction."""

from plateheaps.directions import quarter
from plateheaps.fractions import ascending_fractions
from plateheaps.halfplanes import height, normal, on_line
from plateheaps.laying import cuts
from plateheaps.shadows import shadow
from plateheaps.steps import steps_of


def chords(heap, plane):
    """Return the steps of the look along the line of a half plane, by heights along that line."""
    along = quarter(normal(plane))
    rows = []
    for plate, weight in heap.rows():
        met = [p for p in plate if on_line(plane, p)] + cuts(plate, plane)
        if len(met) > 0:
            heights = ascending_fractions([height(along, p) for p in met])
            rows.append((heights[0], heights[-1], weight))
    return steps_of(rows)


def sweeps(heap, u):
    """Return the triples (height, across, behind): what lines across u meet at and behind each corner."""
    # A line across u meets of the heap what the shadow tells at its height; in an open
    # strip, where nothing begins or ends, what is met of lines counts against the whole.
    changes = {h: (here, behind) for h, here, behind in shadow(heap, u)}
    found = []
    ahead = 0
    for h in ascending_fractions([height(u, p) for plate, weight in heap.rows() for p in plate]):
        here, behind = changes.get(h, (ahead, ahead))
        found.append((h, here, -behind))
        ahead = behind
    return found


def sweep_total(heap, u):
    """Return the sum of all that sweeps tells: it is the heap's total for every direction."""
    return sum([across + behind for h, across, behind in sweeps(heap, u)])
