"""Tables: the weights of the farthest places of heaps, direction by direction."""

from plateheaps.directions import comes_ahead, in_round_order, is_direction, quarter, towards
from plateheaps.fractions import ascending_fractions
from plateheaps.halfplanes import has, height, normal
from plateheaps.kinds import added_up, is_number
from plateheaps.places import ascending, comes_first, is_place
from plateheaps.plates import sides


def far_rows(plate, weight):
    """Return the rows (corner, u, v, weight): the corner is the farthest one on the open arc from u to v."""
    # A point has no normals; told with any one, it is farthest all round.
    normals = [u for u, p, q in sides(plate)] or [(1, 0)]
    return [(p, normals[k - 1], normals[k], weight) for k, p in enumerate(plate)]


def arcs_from(base, turns):
    """Return the arcs of a place whose weight is base just ahead of (1, 0) and changes as turns tell."""
    found = []
    weight = base
    for u in in_round_order([u for u in turns if turns[u] != 0]):
        weight = weight + turns[u]
        found.append((u, weight))
    return tuple(found) if len(found) > 0 else (((1, 0), base),)


def table_of(rows):
    """Return the table of rows (place, u, v, weight), each weight told on the open arc from u to v."""
    bases, turns = {}, {}
    for p, u, v, weight in rows:
        # An arc that does not lead on in round order has the directions just ahead of (1, 0).
        bases[p] = bases.get(p, 0) + (0 if comes_ahead(u, v) else weight)
        here = turns.setdefault(p, {})
        here[u] = here.get(u, 0) + weight
        here[v] = here.get(v, 0) - weight
    told = [(p, arcs_from(bases[p], turns[p])) for p in ascending(list(bases))]
    return tuple([(p, arcs) for p, arcs in told if arcs != (((1, 0), 0),)])


def table(heap):
    """Return the table of a heap."""
    return table_of([row for plate, weight in heap.rows() for row in far_rows(plate, weight)])


def breaks_of(told):
    """Return the list of the breaks of a table, in round order."""
    return in_round_order([u for p, arcs in told if len(arcs) > 1 for u, weight in arcs])


def total_by(told):
    """Return the sum of all places' weights at any direction that is no break."""
    return sum([arcs[-1][1] for p, arcs in told])


def weight_behind(arcs, u):
    """Return the weight of a place on the open arc that has u or begins at u."""
    found = arcs[-1][1]
    for v, weight in arcs:
        if comes_ahead(u, v):
            return found
        found = weight
    return found


def half_by(told, plane):
    """Return what a half plane meets of the heap of a table."""
    u = normal(plane)
    return sum([weight_behind(arcs, u) for p, arcs in told if has(plane, p)])


def look_by(told, p):
    """Return the look at a place of the heap of a table."""
    # The round of half_by is the sum of one function for each place of the table. Such a
    # function does not fall behind a direction, but where the half planes from p on lose
    # the place: there it falls by the place's weight. So the round sum is made of these.
    lost = [(quarter(towards(p, q)), arcs) for q, arcs in told if q != p]
    return total_by(told) - sum([weight_behind(arcs, u) for u, arcs in lost])


def is_arc(value):
    """Tell whether a value is a pair of a direction and an integer."""
    return isinstance(value, tuple) and len(value) == 2 and is_direction(value[0]) and is_number(value[1])


def are_arcs(value):
    """Tell whether a value has the form of the arcs of a place."""
    if not isinstance(value, tuple) or len(value) == 0 or not all([is_arc(part) for part in value]):
        return False
    if len(value) == 1:
        return value[0][0] == (1, 0) and value[0][1] != 0
    for k in range(len(value)):
        if value[k - 1][1] == value[k][1]:
            return False
        if k > 0 and not comes_ahead(value[k - 1][0], value[k][0]):
            return False
    return True


def has_table_form(value):
    """Tell whether a value is a tuple of pairs (place, arcs), the places ascending."""
    if not isinstance(value, tuple):
        return False
    for part in value:
        if not isinstance(part, tuple) or len(part) != 2 or not is_place(part[0]) or not are_arcs(part[1]):
            return False
    for k in range(1, len(value)):
        if not comes_first(value[k - 1][0], value[k][0]):
            return False
    return True


def changes_at_breaks(told):
    """Return the dict from each break to the list of the pairs (place, change of its weight there).

    A place with one weight all round has its change, 0, at (1, 0).
    """
    found = {}
    for p, arcs in told:
        for k, (u, weight) in enumerate(arcs):
            found.setdefault(u, []).append((p, weight - arcs[k - 1][1]))
    return found


def judge_table(value):
    """Return None if a value has the form of a table and stays in sum, else its first fault."""
    if not has_table_form(value):
        return ("form",)
    changes = changes_at_breaks(value)
    for u in in_round_order(list(changes)):
        sums = added_up([(height(u, p), change) for p, change in changes[u]])
        uneven = [h for h in sums if sums[h] != 0]
        if len(uneven) > 0:
            return ("sum", u, ascending_fractions(uneven)[0])
    return None
