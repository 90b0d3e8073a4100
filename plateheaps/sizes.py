"""Sizes of heaps and plates: areas, middles, widths."""

from math import gcd, isqrt, lcm

from plateheaps.cells import cells
from plateheaps.directions import back, in_round_order, quarter, towards
from plateheaps.fractions import added_fractions, divided, fraction, minus
from plateheaps.places import place_of
from plateheaps.plates import bottom, top


def common_part(plate):
    """Return the least number that makes the coordinates of all corners integers when they are multiplied by it."""
    found = 1
    for p in plate:
        found = lcm(found, p[2])
    return found


def whole_corners(plate, fine):
    """Return the list of the corners' pairs of coordinates times fine, integers."""
    return [(p[0] * (fine // p[2]), p[1] * (fine // p[2])) for p in plate]


def corner_sums(corners):
    """Return twice the area, and six times x and y added up over it, of a plate of these corners."""
    whole = along = upward = 0
    for k, (x, y) in enumerate(corners):
        ahead_x, ahead_y = corners[k - 1]
        part = ahead_x * y - x * ahead_y
        whole = whole + part
        along = along + (ahead_x + x) * part
        upward = upward + (ahead_y + y) * part
    return (whole, along, upward)


def plate_moments(plate, weight):
    """Return the triple of moments of one plate with a weight."""
    fine = common_part(plate)
    whole, along, upward = corner_sums(whole_corners(plate, fine))
    down = 6 * fine * fine * fine
    return (fraction(weight * whole, 2 * fine * fine), fraction(weight * along, down), fraction(weight * upward, down))


def plate_area(plate):
    return plate_moments(plate, 1)[0]


def area(heap):
    """Return the sum of the areas of all plates, each times its weight."""
    return moments(heap)[0]


def moments(heap):
    """Return the area of the heap, and x and y added up over it."""
    told = [plate_moments(plate, weight) for plate, weight in heap.rows()]
    sums = [added_fractions([triple[k] for triple in told]) for k in range(3)]
    return (sums[0], sums[1], sums[2])


def middle(heap):
    """Return the place in the middle of the heap's area, None if that is 0."""
    whole, along, upward = moments(heap)
    if whole == (0, 1):
        return None
    return place_of(divided(along, whole), divided(upward, whole))


def areas_by_look(heap):
    """Return the list of the pairs (look, area of the places that have it), ascending, without the look 0."""
    found = {}
    for kind, plate, look in cells(heap):
        if kind == "field" and look != 0:
            found.setdefault(look, []).append(plate_area(plate))
    return [(look, added_fractions(found[look])) for look in sorted(list(found))]


def width(plate, u):
    """Return the height of the plate's top along u, less that of its bottom."""
    return minus(top(plate, u), bottom(plate, u))


def reach(corners, u):
    """Return the width along u, which may have a common divisor, of these corners, integers."""
    heights = [u[0] * x + u[1] * y for x, y in corners]
    return max(heights) - min(heights)


def mixed(one, other, m, n):
    """Return the pair of integers m times one and n times other."""
    return (m * one[0] + n * other[0], m * one[1] + n * other[1])


def best_multiple(corners, one, other):
    """Return an integer m for which m times one and other have the least width."""
    # The width falls up to some m and rises from there on; it is above that at 0 beyond limit.
    limit = 2 * reach(corners, other) // reach(corners, one) + 1
    low, high = -limit, limit
    while low < high:
        m = (low + high) // 2
        if reach(corners, mixed(one, other, m, 1)) <= reach(corners, mixed(one, other, m + 1, 1)):
            high = m
        else:
            low = m + 1
    return low


def narrow_pair(corners):
    """Return two directions of small width of which all others are put together with integers."""
    one, other = (1, 0), (0, 1)
    while True:
        other = mixed(one, other, best_multiple(corners, one, other), 1)
        if reach(corners, other) >= reach(corners, one):
            return (one, other)
        one, other = other, one


def greatest_square(corners):
    """Return the greatest square of the way between two of the corners."""
    return max([(x - z) * (x - z) + (y - w) * (y - w) for x, y in corners for z, w in corners])


def thinnest_piece(plate):
    """Return what thinnest returns of a piece."""
    fine = common_part(plate)
    corners = whole_corners(plate, fine)
    one, other = narrow_pair(corners)
    # Heights along the pair are coordinates, too, in which the area is the same; in these
    # the piece is no long sliver, so that few directions have to be tried.
    told = [(one[0] * x + one[1] * y, other[0] * x + other[1] * y) for x, y in corners]
    double = corner_sums(told)[0]
    least = reach(corners, one)
    limit = isqrt(4 * least * least * greatest_square(told) // (double * double))
    tried = {}
    for m in range(-limit, limit + 1):
        for n in range(-limit, limit + 1):
            if gcd(m, n) == 1:
                tried[mixed(one, other, m, n)] = reach(told, (m, n))
    best = min(list(tried.values()))
    return (fraction(best, fine), in_round_order([u for u in tried if tried[u] == best]))


def thinnest(plate):
    """Return the least width of the plate along any direction, and the directions along which it has it."""
    if len(plate) == 1:
        return ((0, 1), [])
    if len(plate) == 2:
        across = quarter(towards(plate[0], plate[1]))
        return ((0, 1), in_round_order([across, back(across)]))
    return thinnest_piece(plate)
