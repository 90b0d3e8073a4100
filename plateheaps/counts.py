"""Whole places: how many plates and heaps have, how their number grows, and maps that lead them to one another."""

from math import gcd, lcm

from plateheaps.errors import NotWhole, TooMany
from plateheaps.fractions import added_fractions, fraction, minus, plus, times_of
from plateheaps.halfplanes import half_at
from plateheaps.heaps import scaled_heap
from plateheaps.kinds import is_number
from plateheaps.laying import bounds, led
from plateheaps.places import ascending
from plateheaps.plates import hull, sides, ways
from plateheaps.sizes import area

MOST_RESTS = 60


def rounded_up(p, q):
    """Return the least integer that is not less than p / q, q above 0."""
    return -(-p // q)


def least_x(plate):
    """Return the least integer x that is not ahead of the plate."""
    return min([rounded_up(p[0], p[2]) for p in plate])


def greatest_x(plate):
    """Return the greatest integer x that is not behind the plate."""
    return max([p[0] // p[2] for p in plate])


def column(plate, x):
    """Return the least and the greatest whole y of the plate at an integer x, None if there is none."""
    if len(plate) == 1:
        return (plate[0][1], plate[0][1]) if plate[0][0] == x and plate[0][2] == 1 else None
    lows, highs = [], []
    for a, b, c in bounds(plate):
        if b > 0:
            lows.append(rounded_up(c - a * x, b))
        elif b < 0:
            highs.append((a * x - c) // -b)
        elif a * x < c:
            return None
    low, high = max(lows), min(highs)
    return (low, high) if low <= high else None


def columns(plate):
    """Return the triples (x, low, high) of the least and the greatest whole y at each x that has such."""
    told = [(x, column(plate, x)) for x in range(least_x(plate), greatest_x(plate) + 1)]
    return [(x, ends[0], ends[1]) for x, ends in told if ends is not None]


def ladder(n, a, b, m):
    """Return the sum of (a i + b) / m, each rounded down, for i from 0 to n - 1."""
    total = 0
    # As when common divisors are sought: what is left beside whole multiples of m is
    # counted along the other coordinate, where a and m have changed their parts.
    while n > 0:
        total = total + (a // m) * (n * (n - 1) // 2) + (b // m) * n
        a, b = a % m, b % m
        reached = a * n + b
        n, a, b, m = reached // m, m, reached % m, a
    return total


def side_sum(u, p, q, first, last):
    """Return the sum of a side's y, if it is a lower one of -y, rounded down, at all integers x.

    x goes from first to last as far as the side reaches, but not up to its right end.
    """
    a, b, c = half_at(u, p)
    left, right = (p, q) if b < 0 else (q, p)
    start = max(first, rounded_up(left[0], left[2]))
    end = min(last, rounded_up(right[0], right[2]) - 1)
    return ladder(max(0, end - start + 1), -a, c - a * start, abs(b))


def filled(plate, x):
    """Return how many whole places of the plate have this integer x."""
    ends = column(plate, x)
    return 0 if ends is None else ends[1] - ends[0] + 1


def count_up_to(plate, last):
    """Return how many whole places of the plate have an x up to the integer last."""
    first = least_x(plate)
    behind = max([rounded_up(p[0], p[2]) for p in plate])
    end = min(last, behind - 1)
    # From a low to a high y there are 1 + high rounded down + (-low) rounded down whole ones.
    parts = [side_sum(u, p, q, first, end) for u, p, q in sides(plate) if u[1] != 0]
    many = max(0, end - first + 1) + sum(parts)
    return many + filled(plate, behind) if behind <= last else many


def count_of(plate):
    return count_up_to(plate, greatest_x(plate))


def whole_places(heap):
    """Return the sum of the looks at all whole places."""
    return sum([weight * count_of(plate) for plate, weight in heap.rows()])


def places_ahead(plate, p):
    """Return how many whole places of the plate come ahead of p."""
    many = count_up_to(plate, rounded_up(p[0], p[2]) - 1)
    ends = column(plate, p[0] // p[2]) if p[0] % p[2] == 0 else None
    if ends is None:
        return many
    last = min(ends[1], rounded_up(p[1], p[2]) - 1)
    return many + max(0, last - ends[0] + 1)


def nth_place(plate, n):
    """Return the whole place of the plate with n of its whole places ahead of it, None if there is none."""
    if not is_number(n) or n < 0 or n >= count_of(plate):
        return None
    low, high = least_x(plate), greatest_x(plate)
    while low < high:
        x = (low + high) // 2
        if count_up_to(plate, x) > n:
            high = x
        else:
            low = x + 1
    return (low, column(plate, low)[0] + n - count_up_to(plate, low - 1), 1)


def whole_hull(plate):
    """Return the hull of all whole places of the plate, None if it has none."""
    told = columns(plate)
    if len(told) == 0:
        return None
    return hull([(x, y, 1) for x, low, high in told for y in (low, high)])


def corners_of(heap):
    return [p for plate, weight in heap.rows() for p in plate]


def first_broken(places):
    """Return the least of the places that is not whole, None if all are."""
    broken = ascending([p for p in places if p[2] != 1])
    return broken[0] if len(broken) > 0 else None


def steps_on(p, q):
    """Return in how many least steps from whole place to whole place the way from p to q goes, both whole."""
    return gcd(q[0] - p[0], q[1] - p[1])


def edge_steps(plate):
    """Return half the number of the least steps around a piece, or there and back along a stretch."""
    return fraction(sum([steps_on(p, q) for p, q in ways(plate)]), 2)


def growth(heap):
    """Return the triple (A, B, C) by which the whole places grow with the heap, whose corners have to be whole."""
    broken = first_broken(corners_of(heap))
    if broken is not None:
        raise NotWhole(broken)
    steps = [times_of((weight, 1), edge_steps(plate)) for plate, weight in heap.rows()]
    return (area(heap), added_fractions(steps), (heap.total(), 1))


def triple_by(heap, whole, rest, n):
    """Return the triple of the rest by n, of a heap with this area."""
    # Two of the numbers that have the rest tell it, as A is the area; scaled by 0 all
    # plates are a point, which counts as the triple does.
    near, far = whole_places(scaled_heap(heap, rest, 1)), whole_places(scaled_heap(heap, rest + n, 1))
    by_squares = times_of(whole, (n * (2 * rest + n), 1))
    slope = times_of(minus((far - near, 1), by_squares), (1, n))
    return (whole, slope, minus((near, 1), plus(times_of(whole, (rest * rest, 1)), times_of(slope, (rest, 1)))))


def growths(heap):
    """Return (n, triples): by the triple of its rest by n each multiple of the heap has its whole places."""
    n = 1
    for p in corners_of(heap):
        n = lcm(n, p[2])
    if n > MOST_RESTS:
        raise TooMany()
    whole = area(heap)
    return (n, [triple_by(heap, whole, rest, n) for rest in range(n)])


def count_at(told, k):
    """Return A k k + B k + C by the triple whose number is the rest of k."""
    a, b, c = told[1][k % told[0]]
    return plus(plus(times_of(a, (k * k, 1)), times_of(b, (k, 1))), c)[0]


def companion(x, y):
    """Return integers (s, t) with x t - y s = 1, for x and y without a common divisor."""
    rest, left = x, y
    old, new = (1, 0), (0, 1)
    while left != 0:
        times = rest // left
        rest, left = left, rest - times * left
        old, new = new, (old[0] - times * new[0], old[1] - times * new[1])
    return (-rest * old[1], rest * old[0])


def way(p, q):
    return (q[0] - p[0], q[1] - p[1])


def map_by(p, ways_here, q, ways_there):
    """Return the whole map that leads p to q and two ways to two others, None if none does; p and q are whole."""
    (x, y), (z, w) = ways_here
    (r, s), (t, v) = ways_there
    down = x * w - z * y
    found = [r * w - t * y, t * x - r * z, s * w - v * y, v * x - s * z]
    if not all([n % down == 0 for n in found]):
        return None
    a, b, c, d = [n // down for n in found]
    if a * d - b * c not in (1, -1):
        return None
    return (a, b, c, d, q[0] - a * p[0] - b * p[1], q[1] - c * p[0] - d * p[1], 1)


def stretch_ways(plate):
    """Return the least step along a stretch, and one beside it; whole places come of both."""
    x, y = way(plate[0], plate[1])
    steps = gcd(x, y)
    least = (x // steps, y // steps)
    return (least, companion(least[0], least[1]))


def piece_map(one, other):
    """Return a whole map that leads one piece to the other, None if there is none."""
    here = (way(one[0], one[1]), way(one[1], one[2]))
    for k in range(len(other)):
        onward = other[k:] + other[:k]
        for row in (onward, onward[:1] + onward[:0:-1]):
            found = map_by(one[0], here, row[0], (way(row[0], row[1]), way(row[1], row[2])))
            if found is not None and led(one, found) == other:
                return found
    return None


def whole_map(one, other):
    """Return a whole map that leads one plate to the other, None if there is none."""
    for plate in (one, other):
        broken = first_broken(plate)
        if broken is not None:
            raise NotWhole(broken)
    if len(one) != len(other):
        return None
    if len(one) > 2:
        return piece_map(one, other)
    if len(one) == 1:
        return map_by(one[0], ((1, 0), (0, 1)), other[0], ((1, 0), (0, 1)))
    if steps_on(one[0], one[1]) != steps_on(other[0], other[1]):
        return None
    return map_by(one[0], stretch_ways(one), other[0], stretch_ways(other))
