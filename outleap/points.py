"""Points with rational coordinates, and where they lie."""

from outleap.arithmetic import edges_of, greatest_divisor, is_whole, side_of_line
from outleap.errors import InvalidPoint

LARGEST_DENOMINATOR = 10 ** 6
LARGEST_COORDINATE = 10 ** 40


def is_point(value):
    """Return whether any value is a point (x, y, d) in lowest terms and within the bounds."""
    if not isinstance(value, tuple) or len(value) != 3:
        return False
    if not all([is_whole(part) for part in value]):
        return False
    x, y, d = value
    if d < 1 or d > LARGEST_DENOMINATOR:
        return False
    if max(abs(x), abs(y)) > LARGEST_COORDINATE * d:
        return False
    return greatest_divisor(greatest_divisor(d, x), y) == 1


def is_outside(polygon, point):
    """Return whether a point lies outside the polygon and not on its boundary."""
    if not is_point(point):
        raise InvalidPoint(point)
    return any([side_of_line(start, end, point) < 0 for start, end in edges_of(polygon.vertices())])
