"""Stains: the places at which the look of a heap is not 0, their pieces and holes, and walks within them.

A list of cells, as cells returns it, is LIT at some numbers. The RIM of a cell has the numbers
of all other cells that its plate, which is closed, has: those to which its places come as near
as one likes.
"""

from plateheaps.cells import MOST_CELLS, cells, cells_of, inner
from plateheaps.directions import back, quarter, towards
from plateheaps.errors import NotClosed
from plateheaps.folds import chords
from plateheaps.fractions import is_less
from plateheaps.halfplanes import half_at, height
from plateheaps.heaps import look, summed
from plateheaps.places import is_place, turn
from plateheaps.plates import has_place, ways

SIGNS = {"place": 1, "wall": -1, "side": -1, "field": 1}


def rims_of(told):
    """Return the list of the rims of all cells."""
    posts = {plate[0]: k for k, (kind, plate, _) in enumerate(told) if kind == "place"}
    found = []
    for k, (kind, plate, _) in enumerate(told):
        if kind == "place":
            found.append([])
        elif kind == "field":
            # The posts and walls of one line stand side by side in the list.
            below, above = told[k - 1][1], told[k + 1][1]
            edges = [list(range(posts[p], posts[q] + 1)) for p, q in zip(below, above)]
            found.append([k - 1, k + 1] + edges[0] + edges[1])
        else:
            found.append([posts[p] for p in plate])
    return found


def heap_of_cells(told, worths):
    """Return the heap that has the look worths[k] at the places of cell k, and 0 elsewhere."""
    left = list(worths)
    rims = rims_of(told)
    for kinds in (("field",), ("wall", "side")):
        for k, (kind, _, _) in enumerate(told):
            if kind in kinds:
                for n in rims[k]:
                    left[n] = left[n] - left[k]
    return summed([(plate, left[k]) for k, (_, plate, _) in enumerate(told)])


def stain(heap):
    """Return a heap with the look 1 where the heap's look is not 0, and 0 elsewhere."""
    told = cells(heap)
    return heap_of_cells(told, [0 if seen == 0 else 1 for _, _, seen in told])


def where(heap, n):
    """Return a heap with the look 1 where the heap's look is n, which is not 0, and 0 elsewhere."""
    told = cells(heap)
    return heap_of_cells(told, [1 if seen == n else 0 for _, _, seen in told])


def plates_of_both(one, other):
    """Return the list of all plates of two heaps, each once."""
    return [plate for plate, _ in one.rows()] + [plate for plate, _ in other.rows() if one.weight(plate) == 0]


def without(one, other):
    """Return a heap with the look of one where the look of other is 0, and 0 elsewhere."""
    plates = plates_of_both(one, other)
    told = cells_of([(plate, one.weight(plate)) for plate in plates], MOST_CELLS)
    mates = cells_of([(plate, other.weight(plate)) for plate in plates], MOST_CELLS)
    return heap_of_cells(told, [cell[2] if mate[2] == 0 else 0 for cell, mate in zip(told, mates)])


def lit_cells(told):
    """Return the list of the numbers of the cells whose look is not 0."""
    return [k for k, (_, _, seen) in enumerate(told) if seen != 0]


def is_closed_of(told):
    """Tell whether all cells on the rims of lit cells are lit."""
    rims = rims_of(told)
    return all([told[n][2] != 0 for k in lit_cells(told) for n in rims[k]])


def is_closed(heap):
    """Tell whether the stain of the heap is closed."""
    return is_closed_of(cells(heap))


def bonds_of(told):
    """Return the dict from lit cells to the lit cells of which one lies on the other's rim, all by numbers."""
    rims = rims_of(told)
    found = {k: [] for k in lit_cells(told)}
    for k in list(found):
        for n in rims[k]:
            if n in found:
                found[k].append(n)
                found[n].append(k)
    return found


def reached(bonds, start):
    """Return the dict from the numbers to which bonds lead from start to those one step nearer to it."""
    found = {start: None}
    waiting = [start]
    done = 0
    while done < len(waiting):
        k = waiting[done]
        done += 1
        for n in bonds[k]:
            if n not in found:
                found[n] = k
                waiting.append(n)
    return found


def pieces_of(told):
    """Return how many parts of lit cells hang together."""
    bonds = bonds_of(told)
    met = {}
    many = 0
    for k in bonds:
        if k not in met:
            many += 1
            for n in reached(bonds, k):
                met[n] = True
    return many


def pieces(heap):
    """Return the number of the parts of the stain that hang together."""
    return pieces_of(cells(heap))


def holes(heap):
    """Return the number of the holes of the stain, which has to be closed."""
    told = cells(heap)
    if not is_closed_of(told):
        raise NotClosed()
    # The total of the stain, to which each cell adds its sign, is its pieces less its holes.
    return pieces_of(told) - sum([SIGNS[told[k][0]] for k in lit_cells(told)])


def is_cell_of(plate, p):
    """Tell whether the cell of a plate has a place: the plate without its sides, or its ends."""
    if len(plate) == 1:
        return p == plate[0]
    if len(plate) == 2:
        return has_place(plate, p) and p not in plate
    return all([turn(q, r, p) == 1 for q, r in ways(plate)])


def lit_at(told, p):
    """Return the number of the lit cell that has a place, None if there is none."""
    for k in lit_cells(told):
        if is_cell_of(told[k][1], p):
            return k
    return None


def walk(heap, p, q):
    """Return a walk from p to q within the stain, None if there is none."""
    told = cells(heap)
    start, end = lit_at(told, p), lit_at(told, q)
    if start is None or end is None:
        return None
    if p == q:
        return (p,)
    # From the end back to the start, so that the walk is told from the start on.
    onward = reached(bonds_of(told), end)
    if start not in onward:
        return None
    found = [p]
    k = start
    while k is not None:
        found.append(inner(told[k]))
        k = onward[k]
    found.append(q)
    return tuple([r for n, r in enumerate(found) if n == 0 or r != found[n - 1]])


def is_dark_within(steps, low, high):
    """Tell whether a look is 0 at some height above low and below high."""
    ahead = 0
    for h, here, behind in steps:
        if not is_less(low, h):
            ahead = behind
        elif is_less(h, high):
            if ahead == 0 or here == 0:
                return True
            ahead = behind
    return ahead == 0


def is_lit_between(heap, p, q):
    """Tell whether all places between two unlike places, these left out, are places of the stain."""
    u = towards(p, q)
    # chords tells heights along the quarter of the normal: with this one, along u.
    steps = chords(heap, half_at(back(quarter(u)), p))
    return not is_dark_within(steps, height(u, p), height(u, q))


def judge_walk(heap, p, q, value):
    """Return None if a value is a walk from p to q within the stain, else its first fault."""
    if not isinstance(value, tuple) or len(value) == 0 or not all([is_place(part) for part in value]):
        return ("form",)
    if value[0] != p or value[-1] != q:
        return ("ends",)
    for k, r in enumerate(value):
        if look(heap, r) == 0:
            return ("leaves", k)
        following = value[k + 1:k + 2]
        if len(following) > 0 and following[0] != r and not is_lit_between(heap, r, following[0]):
            return ("leaves", k)
    return None
