"""Steps: looks on a line as tuples of entries (height, at, behind), ascending by heights.

A look is told as well by how much it rises at each height, its bottoms, and how much it
falls behind each height, its tops. Sums and products of looks are made of these.
"""

from plateheaps.errors import BadRow
from plateheaps.fractions import ascending_fractions, is_fraction, is_less, plus
from plateheaps.kinds import added_up, is_number


def is_step(value):
    """Tell whether a value is a tuple of a fraction and two integers."""
    if not isinstance(value, tuple) or len(value) != 3:
        return False
    return is_fraction(value[0]) and is_number(value[1]) and is_number(value[2])


def judge_steps(value):
    """Return None if a value is steps, else its first fault."""
    if not isinstance(value, tuple) or not all([is_step(part) for part in value]):
        return ("form",)
    for k in range(1, len(value)):
        if not is_less(value[k - 1][0], value[k][0]):
            return ("height", k)
    ahead = 0
    for k, (_, here, behind) in enumerate(value):
        if ahead == here == behind:
            return ("same", k)
        ahead = behind
    return None if ahead == 0 else ("end",)


def stepping(bottoms, tops):
    """Return the steps of the look that rises at heights and falls behind heights, told as pairs."""
    rises, falls = added_up(bottoms), added_up(tops)
    found = []
    ahead = 0
    for h in ascending_fractions(list(rises) + list(falls)):
        here = ahead + rises.get(h, 0)
        behind = here - falls.get(h, 0)
        if not ahead == here == behind:
            found.append((h, here, behind))
        ahead = behind
    return tuple(found)


def is_stretch_row(value):
    """Tell whether a value is a tuple (low, high, weight), low not above high."""
    if not isinstance(value, tuple) or len(value) != 3:
        return False
    if not is_fraction(value[0]) or not is_fraction(value[1]) or not is_number(value[2]):
        return False
    return not is_less(value[1], value[0])


def steps_of(rows):
    """Return the steps of the sum of the rows' closed stretches (low, high, weight)."""
    for number, row in enumerate(rows):
        if not is_stretch_row(row):
            raise BadRow(number)
    bottoms = [(low, weight) for low, high, weight in rows]
    return stepping(bottoms, [(high, weight) for low, high, weight in rows])


def step_at(steps, height):
    """Return the look at a height."""
    ahead = 0
    for h, here, behind in steps:
        if h == height:
            return here
        if is_less(height, h):
            return ahead
        ahead = behind
    return 0


def step_sum(steps):
    """Return the sum of the look, to which closed stretches add 1 and open ones -1."""
    return sum([here - behind for _, here, behind in steps])


def tops_of(steps):
    """Return the list of the pairs (height, weight) of the tops, ascending."""
    return [(h, here - behind) for h, here, behind in steps if here != behind]


def bottoms_of(steps):
    """Return the list of the pairs (height, weight) of the bottoms, ascending."""
    found = []
    ahead = 0
    for h, here, behind in steps:
        if here != ahead:
            found.append((h, here - ahead))
        ahead = behind
    return found


def added_steps(one, other):
    """Return the steps of the sum of two looks."""
    return stepping(bottoms_of(one) + bottoms_of(other), tops_of(one) + tops_of(other))


def times_steps(steps, n):
    """Return the steps of n times a look."""
    if n == 0:
        return ()
    return tuple([(h, n * here, n * behind) for h, here, behind in steps])


def cut_steps(steps, height):
    """Return the steps of the look that is as before from the height on, 0 below."""
    kept = tuple([entry for entry in steps if is_less(height, entry[0])])
    behind = 0
    for h, _, told in steps:
        if not is_less(height, h):
            behind = told
    here = step_at(steps, height)
    return kept if here == behind == 0 else ((height, here, behind),) + kept


def opposite(pairs):
    """Return the pairs (height, weight) at the opposite heights."""
    return [((-h[0], h[1]), weight) for h, weight in pairs]


def mirrored_steps(steps):
    """Return the steps of the look that has at each height what the look has at the opposite one."""
    return stepping(opposite(tops_of(steps)), opposite(bottoms_of(steps)))


def put_pairs(one, other):
    """Return all pairs of a height of the one and a height of the other, added, weights multiplied."""
    return [(plus(h, g), weight * times) for h, weight in one for g, times in other]


def put_steps(one, other):
    """Return the steps of two looks put together."""
    # Stretches put together begin where both begin, added, and end where both end, added;
    # so bottoms come of bottoms alone, and tops of tops.
    bottoms = put_pairs(bottoms_of(one), bottoms_of(other))
    return stepping(bottoms, put_pairs(tops_of(one), tops_of(other)))


def stretch_of(steps):
    """Return (w, low, high) if there is just one bottom, low, and one top, high, with w 1 or -1, else None."""
    bottoms, tops = bottoms_of(steps), tops_of(steps)
    if len(bottoms) != 1 or len(tops) != 1 or tops[0][1] not in (1, -1):
        return None
    return (tops[0][1], bottoms[0][0], tops[0][0])
