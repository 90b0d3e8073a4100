"""Heaps: plates with whole weights."""

from plateheaps.errors import BadRow
from plateheaps.kinds import is_number
from plateheaps.laying import led, mirror
from plateheaps.places import comes_first, fineness, place_key, scaled
from plateheaps.plates import has_place, hull, is_plate


def is_row(value):
    """Tell whether a value is a tuple of a plate and an integer."""
    if not isinstance(value, tuple) or len(value) != 2:
        return False
    return is_number(value[1]) and is_plate(value[0])


def is_lesser(one, other):
    """Tell whether a plate comes ahead of another one: place by place, the shorter one first."""
    for p, q in zip(one, other):
        if p != q:
            return comes_first(p, q)
    return len(one) < len(other)


def plates_ascending(plates):
    """Return the list of unlike plates in their order."""
    fine = fineness([p for plate in plates for p in plate])
    keyed = [([place_key(p, fine) for p in plate], plate) for plate in plates]
    return [plate for key, plate in sorted(keyed)]


def added_weights(rows):
    """Return the dict from plates, ascending, to the sums of their weights that are not 0."""
    sums = {}
    for plate, weight in rows:
        sums[plate] = sums.get(plate, 0) + weight
    kept = [plate for plate in sums if sums[plate] != 0]
    return {plate: sums[plate] for plate in plates_ascending(kept)}


class Heap:
    """Some plates with whole weights; it never changes."""

    def __init__(self, rows):
        for number, row in enumerate(rows):
            if not is_row(row):
                raise BadRow(number)
        self._weights = added_weights(rows)

    def rows(self):
        """Return the list of the pairs (plate, weight), ascending by the plates."""
        return [(plate, self._weights[plate]) for plate in self._weights]

    def weight(self, plate):
        """Return the weight of a plate, 0 of all else."""
        # What is no plate may be equal to one, as True is to 1, or have no hash.
        return self._weights.get(plate, 0) if is_plate(plate) else 0

    def total(self):
        """Return all weights added."""
        return sum([weight for plate, weight in self.rows()])

    def __len__(self):
        return len(self._weights)

    def __eq__(self, other):
        return isinstance(other, Heap) and self._weights == other._weights

    def __add__(self, other):
        if not isinstance(other, Heap):
            return NotImplemented
        return summed(self.rows() + other.rows())

    def __sub__(self, other):
        if not isinstance(other, Heap):
            return NotImplemented
        return summed(self.rows() + [(plate, -weight) for plate, weight in other.rows()])

    def __mul__(self, n):
        if not is_number(n):
            return NotImplemented
        return summed([(plate, n * weight) for plate, weight in self.rows()])

    def __rmul__(self, n):
        return self * n


def summed(rows):
    """Return the heap of rows that the package itself made, and which need no look."""
    made = Heap([])
    made._weights = added_weights(rows)
    return made


def look(heap, p):
    """Return the sum of the weights of all rows whose plate has the place."""
    return sum([weight for plate, weight in heap.rows() if has_place(plate, p)])


def scaled_heap(heap, m, n):
    """Return the heap of the plates whose corners are scaled by m / n; m is not below 0, n above 0."""
    return summed([(hull([scaled(p, m, n) for p in plate]), weight) for plate, weight in heap.rows()])


def led_heap(heap, leading):
    """Return the heap of the plates led by a map."""
    return summed([(led(plate, leading), weight) for plate, weight in heap.rows()])


def mirrored(heap):
    """Return the heap of the mirrored plates."""
    return summed([(mirror(plate), weight) for plate, weight in heap.rows()])
