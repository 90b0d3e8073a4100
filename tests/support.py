"""What several tests use: values of the wrong kind, numbers and places to go through."""

from fractions import Fraction
from math import lcm

from plateheaps.directions import between, in_arc, quarter, towards
from plateheaps.heaps import Heap
from plateheaps.laying import inside
from plateheaps.plates import hull


class Unlike:
    """An object that the package knows nothing of."""


def odd_values():
    """Return values of all kinds that are no tuple of integers, new ones each time."""
    return [
        None, True, False, 0, 1, -1, 10 ** 39, "", "a", "(1, 2)", "(1, 2, 3)", [], [1, 2], [1, 2, 1], {}, {1: 2},
        {(1, 2): 3}, (), (None,), ((),), ("1", "2"), ("1", "2", "3"), (1, None), (1, 2, None), (None, 2, 1),
        ([1], 2), ([1, 2, 1],), (1, [2], 1), ({}, 1), ({}, 1, 1), ((1, 2), 1), (1, (2, 1)), ((1, 2, 1),) * 2,
        (True, False), (True, 2), (1, True), (False, 1), (True, 0, 1), (0, True, 1), (1, 2, True), (False, False, True),
        (1,), (1, 2, 3, 4), "\t\n ~", Unlike,
    ]


def great_values():
    """Return values of many parts, or deep ones, or of long numbers, that are nothing the package knows."""
    deep = 1
    for k in range(29):
        deep = (deep,) if k % 3 else [deep]
    n = 10 ** 40 - 1
    return [
        deep, (deep, 1), ((1, 2), deep, 1), tuple(range(1999)), (n, n), (n, 1), (n, n, n), ((n, n), n, n),
        tuple([((k, 1), k) for k in range(400)]), {k: (k,) for k in range(900)}, Heap([]), (Heap([]),),
        ((1, 0), Heap([]), 1), (((1, 0), 1, Heap([])),), "a" * 1900, (1, 0, {"a": [None]}),
    ]


def odd_numbers():
    """Return values of all kinds that are no integer."""
    return [None, True, False, "", "1", (), (1,), [], [1], {}, {1: 1}, ((1, 2), [3])]


NUMBERS = (0, 1, -1, 2, -2, 3, -7, 12, 10 ** 9 - 1, -(10 ** 9 - 1), 10 ** 40)


def small_directions():
    """Return all directions of numbers from -3 to 3, in round order from (1, 0) on."""
    upper = [(1, 0), (3, 1), (2, 1), (3, 2), (1, 1), (2, 3), (1, 2), (1, 3)]
    right = upper + [(-b, a) for a, b in upper]
    return right + [(-a, -b) for a, b in right]


def small_places():
    """Return all places with coordinates from -1 to 1 in steps of a half, ascending."""
    steps = [Fraction(k, 2) for k in range(-2, 3)]
    return [as_place(x, y) for x in steps for y in steps]


def as_place(x, y):
    """Return the place with two coordinates, each a Fraction or an integer."""
    down = lcm(Fraction(x).denominator, Fraction(y).denominator)
    return (int(x * down), int(y * down), down)


def at(p):
    """Return both coordinates of a place as Fractions."""
    return Fraction(p[0], p[2]), Fraction(p[1], p[2])


def points_of(text):
    """Return the list of the places told by a text such as "0,0 1/2,3"."""
    return [as_place(*[Fraction(part) for part in word.split(",")]) for word in text.split()]


def zoo():
    """Return plates of all kinds by names; the corners stand here as the document orders them."""
    told = {
        "origin": "0,0", "point": "1/2,1", "lone": "-2/3,1/3",
        "flat": "0,0 2,0", "upright": "1,-1 1,3/2", "slant": "-1,-1 2,1", "short": "1/2,1/2 1,0",
        "tri": "0,0 2,0 0,2", "thin": "-1,0 2,1/3 0,1/2", "down": "0,1 1,-1 2,1",
        "box": "0,0 1,0 1,1 0,1", "wide": "-1,-1/2 2,-1/2 2,2 -1,2", "far": "5,5 6,5 5,6",
        "diamond": "-1,1 0,0 1,1 0,2", "five": "-1,0 0,-1 2,0 3/2,3/2 0,1",
        "eight": "-1,0 -1/2,-1 1/2,-1 1,-1/2 1,1/2 1/2,1 -1/2,1 -1,1/2",
    }
    return {name: tuple(points_of(told[name])) for name in told}


def grid():
    """Return the places with coordinates from -2 to 3 in steps of a half, and some more."""
    steps = [Fraction(k, 2) for k in range(-4, 7)]
    return [as_place(x, y) for x in steps for y in steps] + points_of("1/3,1/3 2/3,0 -2/3,1/3 7/5,3/5 1/7,1/7")


def is_in(plate, p):
    """Tell whether a plate has a place, by the corners of triangles: not as the package does."""
    x, y = at(p)
    corners = [at(q) for q in plate]
    if len(corners) == 1:
        return corners[0] == (x, y)
    if len(corners) == 2:
        corners = [corners[0], corners[1], corners[1]]
    for k in range(1, len(corners) - 1):
        if in_triangle(corners[0], corners[k], corners[k + 1], (x, y)):
            return True
    return False


def in_triangle(a, b, c, p):
    """Tell whether p is a mean of a, b and c with weights not below 0; c may be b."""
    ways = [(b[0] - a[0], b[1] - a[1]), (c[0] - a[0], c[1] - a[1]), (p[0] - a[0], p[1] - a[1])]
    whole = ways[0][0] * ways[1][1] - ways[0][1] * ways[1][0]
    if whole == 0:
        along = ways[0][0] * ways[2][0] + ways[0][1] * ways[2][1]
        across = ways[0][0] * ways[2][1] - ways[0][1] * ways[2][0]
        return across == 0 and 0 <= along <= ways[0][0] ** 2 + ways[0][1] ** 2
    first = (ways[2][0] * ways[1][1] - ways[2][1] * ways[1][0]) / whole
    second = (ways[0][0] * ways[2][1] - ways[0][1] * ways[2][0]) / whole
    return first >= 0 and second >= 0 and first + second <= 1


def look_told(heap, p):
    """Return the look at a place, not as the package works it out."""
    return sum(weight for plate, weight in heap.rows() if is_in(plate, p))


def halves():
    """Return half planes whose lines go along sides, through corners, through and past the zoo's plates."""
    return [
        (1, 0, 0), (-1, 0, 0), (0, 1, 0), (0, -1, 0), (1, 0, 2), (-1, 0, -2), (0, 2, 1), (1, 1, 2), (-1, -1, -2),
        (1, -1, 0), (2, 4, 3), (-2, -4, -3), (3, -2, 1), (1, 1, 12), (-1, -1, -12), (2, -1, -3), (0, 1, 2), (-7, 5, 1),
    ]


def worth(s):
    """Return what a fraction stands for."""
    return Fraction(s[0], s[1])


def as_fraction(x):
    """Return the fraction that stands for a Fraction, an integer or a text such as "1/2"."""
    return (Fraction(x).numerator, Fraction(x).denominator)


def along(u, p):
    """Return the height of a place along a direction, a Fraction."""
    x, y = at(p)
    return u[0] * x + u[1] * y


class Dice:
    """Numbers that look thrown, but are the same at each run."""

    def __init__(self, seed):
        self.seed = seed

    def throw(self, low, high):
        self.seed = (self.seed * 6364136223846793005 + 1442695040888963407) % 2 ** 64
        return low + (self.seed >> 33) % (high - low + 1)

    def place(self, limit, down):
        d = self.throw(1, down)
        return as_place(Fraction(self.throw(-limit, limit), d), Fraction(self.throw(-limit, limit), d))

    def plate(self, limit, down, corners=4):
        return hull([self.place(limit, down) for _ in range(self.throw(1, corners))])

    def heap(self, rows, limit=3, down=2, corners=4):
        return Heap([(self.plate(limit, down, corners), self.throw(-2, 2)) for _ in range(rows)])


def some_heaps():
    """Return heaps of all kinds, the empty one among them."""
    told = zoo()
    found = [Heap([]), Heap([(told["origin"], 1)]), Heap([(told["flat"], -2)]), Heap([(told["tri"], 1)])]
    found += [Heap([(told["box"], 3), (told["tri"], -1), (told["flat"], 1), (told["lone"], 4)])]
    found += [Heap([(plate, k - 7 or 99) for k, plate in enumerate(told.values())])]
    found += [Heap([(part, 2 * weight) for part, weight in inside(told["five"])])]
    return found + [Dice(seed).heap(2 + seed) for seed in range(6)]


def alike_pairs():
    """Return pairs of unequal heaps that look alike everywhere."""
    texts = [
        ([("0,0 2,0", 1)], [("0,0 1,0", 1), ("1,0 2,0", 1), ("1,0", -1)]),
        ([("0,0 2,0 0,2", 2)], [("0,0 1,1 0,2", 2), ("0,0 2,0 1,1", 2), ("0,0 1,1", -2)]),
        ([("0,0 1,0 1,1 0,1", 1), ("1,0 2,0 2,1 1,1", 1)], [("0,0 2,0 2,1 0,1", 1), ("1,0 1,1", 1)]),
        ([], [("-1,0 1,0", 1), ("-1,0 0,0", -1), ("0,0 1,0", -1), ("0,0", 1)]),
        ([("0,0 3,0", 1), ("1,0 2,0", -1)], [("0,0 1,0", 1), ("2,0 3,0", 1), ("1,0", -1), ("2,0", -1)]),
    ]
    return [tuple(heap_told(rows) for rows in pair) for pair in texts]


def twelve_corners():
    """Return a plate of twelve corners, whose sides with back normals are unlike in length."""
    ways = [(3, 0), (4, 1), (2, 2), (1, 4), (0, 1), (-1, 2), (-2, 2), (-3, 1), (-1, 0), (-3, -4), (-1, -3), (1, -6)]
    places = [(0, 0, 1)]
    for x, y in ways:
        places.append((places[-1][0] + x, places[-1][1] + y, 1))
    return hull(places)


def heap_told(rows):
    """Return the heap of rows of a text of corners, in their order, and a weight."""
    return Heap([(tuple(points_of(text)), weight) for text, weight in rows])


def places_beside(heap):
    """Return the corners of a heap's plates, middles between any two, and the places of small_places."""
    corners = sorted({p for plate, _ in heap.rows() for p in plate}, key=at)[:12]
    middles = [as_place((at(p)[0] + at(q)[0]) / 2, (at(p)[1] + at(q)[1]) / 2) for p in corners for q in corners]
    return sorted(set(corners + middles + small_places()), key=at)


def slope_key(u):
    """Return a key for round order."""
    a, b = u
    upper = b > 0 or (b == 0 and a > 0)
    if b == 0:
        return (not upper, 0, 0)
    return (not upper, 1, -worth((a, b)))


def round_sorted(directions):
    return sorted(set(directions), key=slope_key)


def weights_at(heap, u):
    """Return the far weights of all places at a direction that is no normal, those of 0 left out."""
    found = {}
    for plate, weight in heap.rows():
        best = max(along(u, p) for p in plate)
        far = [p for p in plate if along(u, p) == best]
        assert len(far) == 1
        found[far[0]] = found.get(far[0], 0) + weight
    return {p: found[p] for p in found if found[p]}


def normals_of(heap):
    """Return the directions across each two corners of each plate, in round order: the normals among them."""
    found = []
    for plate, _ in heap.rows():
        for p in plate:
            found += [quarter(towards(p, q)) for q in plate if q != p]
    return round_sorted(found)


def told_table(heap):
    """Return the table, worked out by one direction on each arc between normals."""
    normals = normals_of(heap)
    if not normals:
        return tuple((p, (((1, 0), w),)) for p, w in sorted(weights_at(heap, (1, 0)).items(), key=lambda row: at(row[0])))
    looks = [weights_at(heap, between(u, v)) for u, v in zip(normals, normals[1:] + normals[:1])]
    found = []
    for p in sorted({p for far in looks for p in far}, key=at):
        weights = [far.get(p, 0) for far in looks]
        arcs = [(normals[k], weights[k]) for k in range(len(normals)) if weights[k] != weights[k - 1]]
        found.append((p, tuple(arcs) or (((1, 0), weights[0]),)))
    return tuple(found)


def breaks_told(told):
    return round_sorted([u for _, arcs in told if len(arcs) > 1 for u, _ in arcs])


def told_arcs(told):
    """Return the arcs of a table, worked out by one direction on each arc between its breaks."""
    breaks = breaks_told(told)
    found = []
    for u, v in zip(breaks, breaks[1:] + breaks[:1]):
        w = between(u, v)
        found.append((w, [(p, weight_told(arcs, w)) for p, arcs in told if weight_told(arcs, w)]))
    return found or [((1, 0), [(p, arcs[0][1]) for p, arcs in told])]


def weight_told(arcs, w):
    """Return the weight of a place at a direction that is no break."""
    for k, (u, weight) in enumerate(arcs):
        if len(arcs) == 1 or in_arc(u, arcs[(k + 1) % len(arcs)][0], w):
            return weight
    raise AssertionError((arcs, w))
