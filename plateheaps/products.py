"""Heaps put together, plate by plate, and what becomes of their tables."""

from plateheaps.directions import between, in_round_order
from plateheaps.errors import TooMany
from plateheaps.heaps import summed
from plateheaps.laying import put
from plateheaps.places import moved
from plateheaps.tables import breaks_of, table_of

MOST_PAIRS = 400


def laid_together(one, other):
    """Return the heap of all plates of the one put to all plates of the other, however many they are."""
    pairs = [(row, mate) for row in one.rows() for mate in other.rows()]
    return summed([(put(plate, mate), weight * times) for (plate, weight), (mate, times) in pairs])


def put_together(one, other):
    """Return the heap of all plates of the one put to all plates of the other."""
    if len(one) * len(other) > MOST_PAIRS:
        raise TooMany()
    return laid_together(one, other)


def power(heap, n):
    """Return the heap put together n times with the point (0, 0, 1)."""
    found = summed([(((0, 0, 1),), 1)])
    for _ in range(n):
        found = put_together(found, heap)
    return found


def runs(arcs, numbers):
    """Return the triples (start, end, weight) of the weights that are not 0.

    Arcs between breaks have the numbers of the breaks at which they begin; the weight
    stands on those from start up to end, left out.
    """
    if len(arcs) == 1:
        return [(0, len(numbers), arcs[0][1])]
    starts = [numbers[u] for u, weight in arcs]
    found = [(0, starts[0], arcs[-1][1])]
    for k, end in enumerate(starts[1:] + [len(numbers)]):
        found.append((starts[k], end, arcs[k][1]))
    return [(start, end, weight) for start, end, weight in found if start < end and weight != 0]


def numbered(breaks):
    """Return the dict from breaks in round order to their numbers."""
    return {u: k for k, u in enumerate(breaks)}


def arcs_of(told):
    """Return the list of the pairs (direction that tells an arc, its farthest places with weights)."""
    breaks = breaks_of(told)
    if len(breaks) == 0:
        return [((1, 0), [(p, arcs[0][1]) for p, arcs in told])]
    numbers = numbered(breaks)
    found = [(between(u, v), []) for u, v in zip(breaks, breaks[1:] + breaks[:1])]
    for p, arcs in told:
        for start, end, weight in runs(arcs, numbers):
            for k in range(start, end):
                found[k][1].append((p, weight))
    return found


def common_runs(one, other):
    """Return the triples (start, end, weight) of what two lists of runs have in common, weights multiplied."""
    found = []
    for start, end, weight in one:
        for begin, stop, times in other:
            if start < stop and begin < end:
                found.append((max(start, begin), min(end, stop), weight * times))
    return found


def together_table(one, other):
    """Return the table of what two heaps with these tables are put together to."""
    breaks = in_round_order(breaks_of(one) + breaks_of(other)) or [(1, 0)]
    numbers = numbered(breaks)
    ends = breaks + breaks[:1]
    mates = [(q, runs(arcs, numbers)) for q, arcs in other]
    rows = []
    for p, arcs in one:
        here = runs(arcs, numbers)
        for q, there in mates:
            both = common_runs(here, there)
            if len(both) > 0:
                r = moved(p, q)
                rows.extend([(r, ends[start], ends[end], weight) for start, end, weight in both])
    return table_of(rows)
