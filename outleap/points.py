"""Points with rational coordinates, and where they lie."""

from outleap.arithmetic import edges_of, greatest_divisor, is_whole, side_of_line
from outleap.errors import InvalidPoint

LARGEST_DENOMINATOR = 10 ** 6
LARGEST_COORDINATE = 10 ** 40


def is_place(value):
    """Return whether any value is a tuple (x, y, d) in lowest terms, that is, a point without bounds."""
    if not isinstance(value, tuple) or len(value) != 3:
        return False
    if not all([is_whole(part) for part in value]):
        return False
    x, y, d = value
    return d >= 1 and greatest_divisor(greatest_divisor(d, x), y) == 1


def is_point(value):
    """Return whether any value is a point (x, y, d) in lowest terms and within the bounds."""
    if not is_place(value):
        return False
    x, y, d = value
    return d <= LARGEST_DENOMINATOR and max(abs(x), abs(y)) <= LARGEST_COORDINATE * d


def require_point(value):
    """Raise InvalidPoint unless the value is a point."""
    if not is_point(value):
        raise InvalidPoint(value)


def lies_outside(polygon, place):
    """Return whether a point without bounds lies outside the polygon and not on its boundary."""
    return any([side_of_line(start, end, place) < 0 for start, end in edges_of(polygon.vertices())])


def is_outside(polygon, point):
    """Return whether a point lies outside the polygon and not on its boundary."""
    require_point(point)
    return lies_outside(polygon, point)
