"""All errors of the package. What they name they bear as copies."""

from plateheaps.kinds import copied


class HeapError(ValueError):
    """Something cannot be made of what was passed."""


class BadPlace(HeapError):
    """Three values tell no place."""


class BadDirection(HeapError):
    """Two values tell no direction."""


class BadHalf(HeapError):
    """Three values tell no half plane."""


class NoPlaces(HeapError):
    """No plate has no places."""


class TooMany(HeapError):
    """More would come of it than is allowed."""


class NotClosed(HeapError):
    """The stain of a heap is not closed."""


class BadDeed(HeapError):
    """A value is no deed."""


class NothingDone(HeapError):
    """There is nothing to undo or to redo."""


class BadRow(HeapError):
    """The entry of this number is not such as it has to be."""

    def __init__(self, number):
        self.number = copied(number)


class BadText(HeapError):
    """A text cannot go on with the character at this place."""

    def __init__(self, place):
        self.place = copied(place)


class BadTable(HeapError):
    """A value is no table, or does not stay in sum on a line."""

    def __init__(self, direction, height):
        self.direction = copied(direction)
        self.height = copied(height)


class NoUndoing(HeapError):
    """A heap cannot be taken back, as its farthest places in a direction show."""

    def __init__(self, direction):
        self.direction = copied(direction)


class TooLong(HeapError):
    """A side with this outer normal is too long."""

    def __init__(self, direction):
        self.direction = copied(direction)


class NotWhole(HeapError):
    """A corner at this place is not whole."""

    def __init__(self, place):
        self.place = copied(place)


class BadName(HeapError):
    """A value is no name that can be taken."""

    def __init__(self, name):
        self.name = copied(name)


class Missing(LookupError):
    """What was asked for is not there."""


class UnknownName(Missing):
    """There is no branch of this name."""

    def __init__(self, name):
        self.name = copied(name)


class NoMoment(Missing):
    """There is no moment of this number."""

    def __init__(self, number):
        self.number = copied(number)
