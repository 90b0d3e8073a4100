"""Cells, parts and ways within sets, worked out with Fractions and not as the package does."""

from fractions import Fraction
from functools import cache

from plateheaps.heaps import Heap
from plateheaps.plates import hull
from support import as_place, at, is_in, look_told


def ends_of(plate):
    """Return the pairs of ends of a plate's sides, as pairs of Fractions."""
    corners = [at(p) for p in plate]
    if len(corners) == 1:
        return []
    return list(zip(corners, corners[1:] + corners[:1]))[:len(corners) if len(corners) > 2 else 1]


def y_at(side, x):
    """Return the y at which a side that is not upright meets the line at x, None if it does not."""
    (x1, y1), (x2, y2) = side
    if x1 == x2 or not min(x1, x2) <= x <= max(x1, x2):
        return None
    return y1 + (y2 - y1) * (x - x1) / (x2 - x1)


def crossing_told(one, other):
    """Return the x of the place that two sides both have, None if there is none or they are parallel."""
    (x1, y1), (x2, y2) = one
    (x3, y3), (x4, y4) = other
    down = (x2 - x1) * (y4 - y3) - (y2 - y1) * (x4 - x3)
    if down == 0:
        return None
    s = ((x3 - x1) * (y4 - y3) - (y3 - y1) * (x4 - x3)) / down
    t = ((x3 - x1) * (y2 - y1) - (y3 - y1) * (x2 - x1)) / down
    return x1 + s * (x2 - x1) if 0 <= s <= 1 and 0 <= t <= 1 else None


def told_cells(heap):
    """Return the cells of a heap as the document tells them."""
    return cells_of_rows(tuple(heap.rows()))


@cache
def cells_of_rows(rows):
    heap = Heap(rows)
    plates = [plate for plate, _ in rows]
    told = [side for plate in plates for side in ends_of(plate)]
    corners = {at(p) for plate in plates for p in plate}
    crossed = {crossing_told(one, other) for k, one in enumerate(told) for other in told[:k]}
    xs = sorted({x for x, y in corners} | (crossed - {None}))
    found = []
    for k, x in enumerate(xs):
        ys = sorted({y_at(side, x) for side in told} - {None} | {y for z, y in corners if z == x})
        for n, y in enumerate(ys):
            found.append(("place", (as_place(x, y),)))
            if y != ys[-1]:
                found.append(("wall", (as_place(x, y), as_place(x, ys[n + 1]))))
        if x != xs[-1]:
            found.extend(told_strip(told, x, xs[k + 1]))
    return [(kind, plate, look_told(heap, mean(plate))) for kind, plate in found]


def told_strip(told, x, z):
    """Return the sides and fields between two lines."""
    pairs = [(y_at(side, x), y_at(side, z)) for side in told]
    struts = sorted({pair for pair in pairs if None not in pair})
    found = []
    for k, (low, high) in enumerate(struts):
        found.append(("side", (as_place(x, low), as_place(z, high))))
        if k + 1 < len(struts):
            rest = [as_place(x, struts[k + 1][0]), as_place(z, struts[k + 1][1])]
            found.append(("field", hull([as_place(x, low), as_place(z, high)] + rest)))
    return found


def mean(plate):
    """Return the place whose coordinates are the means of those of a plate's corners."""
    return as_place(sum(at(p)[0] for p in plate) / Fraction(len(plate)), sum(at(p)[1] for p in plate) / len(plate))


def parts(cells):
    """Return lists of those cells of the list that hang together: one of which has an inner place in the plate of another."""
    groups = []
    for cell in cells:
        near = [group for group in groups if any(touch(cell, other) for other in group)]
        groups = [group for group in groups if group not in near]
        groups.append([cell] + [other for group in near for other in group])
    return groups


def touch(one, other):
    return is_in(one[1], mean(other[1])) or is_in(other[1], mean(one[1]))


def pieces_told(heap):
    return len(parts([cell for cell in told_cells(heap) if cell[2] != 0]))


def holes_told(heap):
    """Return the number of parts of all places of a great box that are none of the stain, less 1."""
    box = (as_place(-99, -99), as_place(99, -99), as_place(99, 99), as_place(-99, 99))
    return len(parts([cell for cell in told_cells(heap + Heap([(box, 1000)])) if cell[2] == 1000])) - 1


def is_closed_told(heap):
    """Tell whether no place of the stain's cells comes near to one of the other cells."""
    told = told_cells(heap)
    lit = [cell for cell in told if cell[2] != 0]
    return not any(is_in(cell[1], mean(other[1])) for cell in lit for other in told if other[2] == 0)


def is_lit_on(heap, p, q, last):
    """Tell whether all places from p to q, q itself only if last, are places of the stain."""
    (x1, y1), (x2, y2) = at(p), at(q)
    stops = {Fraction(0), Fraction(1)}
    for plate, _ in heap.rows():
        for corner in plate:
            stops.add(share(at(corner), (x1, y1), (x2, y2)))
        for (x3, y3), (x4, y4) in ends_of(plate):
            down = (x2 - x1) * (y4 - y3) - (y2 - y1) * (x4 - x3)
            if down != 0:
                stops.add(((x3 - x1) * (y4 - y3) - (y3 - y1) * (x4 - x3)) / down)
    row = sorted(t for t in stops if t is not None and 0 <= t <= 1)
    row += [(s + t) / 2 for s, t in zip(row, row[1:])]
    spots = [as_place(x1 + t * (x2 - x1), y1 + t * (y2 - y1)) for t in row if last or t < 1]
    return all(look_told(heap, spot) != 0 for spot in spots)


def share(c, a, b):
    """Return how far along the way from a to b the place c lies, None if it does not lie on the line."""
    if (b[0] - a[0]) * (c[1] - a[1]) != (b[1] - a[1]) * (c[0] - a[0]):
        return None
    for k in (0, 1):
        if a[k] != b[k]:
            return (c[k] - a[k]) / (b[k] - a[k])
    return None


def is_walk_told(heap, p, q, value):
    """Tell whether a tuple of places is a walk."""
    if value[0] != p or value[-1] != q or look_told(heap, q) == 0:
        return False
    return all(is_lit_on(heap, r, s, True) for r, s in zip(value, value[1:]))
