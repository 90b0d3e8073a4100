"""Cells: what upright lines, and the sides of a heap's plates between them, cut the plane into.

A BEAM is a side that is not upright, told as (start, end, track, row, lower): the x at which
it starts and ends, the half plane of its line that lies above it, the number of its row, and
whether the plate lies above it. Beams with one track lie in one line. Where lines are
numbered, start and end are the numbers of the lines.
"""

from plateheaps.directions import back
from plateheaps.errors import TooMany
from plateheaps.fractions import ascending_fractions, fraction
from plateheaps.halfplanes import half_at
from plateheaps.places import ascending, moved, place, scaled
from plateheaps.plates import sides

MOST_CELLS = 3000


def x_of(p):
    return fraction(p[0], p[2])


def beams_of(plates):
    """Return the list of the beams of all plates."""
    found = []
    for row, plate in enumerate(plates):
        for u, p, q in sides(plate):
            if u[1] < 0:
                found.append((x_of(p), x_of(q), half_at(back(u), p), row, True))
            elif u[1] > 0:
                found.append((x_of(q), x_of(p), half_at(u, p), row, False))
    return found


def starting_at(beams, xs):
    """Return, for each of the lines at xs, the list of the beams that start at it, with lines numbered."""
    numbers = {x: k for k, x in enumerate(xs)}
    found = [[] for _ in xs]
    for start, end, track, row, lower in beams:
        found[numbers[start]].append((numbers[start], numbers[end], track, row, lower))
    return found


def going_on(beams, k):
    """Return the list of the beams that do not end at line k."""
    return [beam for beam in beams if beam[1] > k]


def height_at(track, x):
    """Return the y of the place of a track at x."""
    a, b, c = track
    return fraction(c * x[1] - a * x[0], b * x[1])


def place_at(track, x):
    """Return the place of a track at x."""
    a, b, c = track
    return place(b * x[0], c * x[1] - a * x[0], b * x[1])


def ranks(tracks, x):
    """Return the dict from tracks to numbers that ascend as their heights at x do."""
    heights = {track: height_at(track, x) for track in tracks}
    numbers = {h: k for k, h in enumerate(ascending_fractions(list(heights.values())))}
    return {track: numbers[heights[track]] for track in tracks}


def struts_of(beams, x, z):
    """Return the list of (rank at x, rank at z, track) of the beams' tracks, each once, from below upwards."""
    tracks = list({beam[2]: True for beam in beams})
    left, right = ranks(tracks, x), ranks(tracks, z)
    return sorted([(left[track], right[track], track) for track in tracks])


def crossing_x(one, other):
    """Return the x at which two tracks that are not parallel cross."""
    return fraction(one[2] * other[1] - other[2] * one[1], one[0] * other[1] - other[0] * one[1])


def crossings(struts):
    """Return the x of all places between two lines at which tracks cross."""
    found = {}
    for k, (_, end, track) in enumerate(struts):
        for _, other_end, other in struts[:k]:
            if other_end > end:
                found[crossing_x(track, other)] = True
    return list(found)


def lines_of(plates, beams, most):
    """Return the ascending list of the x of all lines; TooMany if it shows that there are more cells than most."""
    xs = ascending_fractions([x_of(p) for plate in plates for p in plate])
    starting = starting_at(beams, xs)
    found = {x: True for x in xs}
    active = []
    least = 0
    for k in range(len(xs) - 1):
        active = going_on(active, k) + starting[k]
        struts = struts_of(active, xs[k], xs[k + 1])
        for x in crossings(struts):
            found[x] = True
        # Each line has a post, and lines that are found still only part struts.
        least = least + max(0, 2 * len(struts) - 1)
        if most is not None and max(least, len(found)) > most:
            raise TooMany()
    return ascending_fractions(list(found))


def looked(kinds, plates, rises, falls):
    """Return the cells of a row from below upwards, of two kinds by turns.

    rises and falls tell by how much the look rises at each cell of the first kind, and
    falls behind it.
    """
    found = []
    look = 0
    for k, plate in enumerate(plates):
        look = look - falls[k // 2] if k % 2 else look + rises[k // 2]
        found.append((kinds[k % 2], plate, look))
    return found


def line_cells(marks, weights):
    """Return the posts and walls of a line, from below upwards; marks are pairs (row, place on the line)."""
    posts = ascending(list({p: True for row, p in marks}))
    numbers = {p: k for k, p in enumerate(posts)}
    spans = {}
    for row, p in marks:
        low, high = spans.get(row, (len(posts), 0))
        spans[row] = (min(low, numbers[p]), max(high, numbers[p]))
    rises, falls = [0 for _ in posts], [0 for _ in posts]
    for row in spans:
        low, high = spans[row]
        rises[low] = rises[low] + weights[row]
        falls[high] = falls[high] + weights[row]
    plates = [(posts[0],)]
    for p, q in zip(posts, posts[1:]):
        plates.extend([(p, q), (q,)])
    return looked(("place", "wall"), plates, rises, falls)


def field(below, above):
    """Return the plate between two sides without common places between their ends."""
    corners = [below[0], below[1], above[1], above[0]]
    return tuple([p for p, q in zip(corners, corners[1:] + corners[:1]) if p != q])


def strip_cells(beams, weights, x, z):
    """Return the sides and fields between the lines at x and z, from below upwards."""
    tracks = [track for left, right, track in struts_of(beams, x, z)]
    if len(tracks) == 0:
        return []
    numbers = {track: k for k, track in enumerate(tracks)}
    rises, falls = [0 for _ in tracks], [0 for _ in tracks]
    for _, _, track, row, lower in beams:
        k = numbers[track]
        if lower:
            rises[k] = rises[k] + weights[row]
        else:
            falls[k] = falls[k] + weights[row]
    struts = [(place_at(track, x), place_at(track, z)) for track in tracks]
    plates = [struts[0]]
    for below, above in zip(struts, struts[1:]):
        plates.extend([field(below, above), above])
    return looked(("side", "field"), plates, rises, falls)


def marks_of(plates, xs):
    """Return, for each of the lines at xs, the list of the pairs (row, corner on the line)."""
    numbers = {x: k for k, x in enumerate(xs)}
    found = [[] for _ in xs]
    for row, plate in enumerate(plates):
        for p in plate:
            found[numbers[x_of(p)]].append((row, p))
    return found


def cells_of(rows, most):
    """Return the cells of unlike plates with any weights; TooMany if there are more than most, a number or None."""
    plates, weights = [plate for plate, weight in rows], [weight for plate, weight in rows]
    beams = beams_of(plates)
    xs = lines_of(plates, beams, most)
    marks, starting = marks_of(plates, xs), starting_at(beams, xs)
    found = []
    active = []
    for k, x in enumerate(xs):
        active = going_on(active, k)
        crossed = [(beam[3], place_at(beam[2], x)) for beam in active]
        found.extend(line_cells(marks[k] + crossed, weights))
        active = active + starting[k]
        if len(active) > 0:
            found.extend(strip_cells(active, weights, x, xs[k + 1]))
        if most is not None and len(found) > most:
            raise TooMany()
    return found


def cells(heap):
    """Return the list of the cells (kind, plate, look) of a heap, line by line, from below upwards."""
    return cells_of(heap.rows(), MOST_CELLS)


def inner(cell):
    """Return a place of a cell: the mean of its plate's corners."""
    plate = cell[1]
    together = plate[0]
    for p in plate[1:]:
        together = moved(together, p)
    return scaled(together, 1, len(plate))
