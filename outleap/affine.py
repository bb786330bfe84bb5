"""Affine maps with integer coefficients that keep areas, and scaling."""

from outleap.arithmetic import is_whole, lowest_terms
from outleap.errors import InvalidFactor, InvalidMap
from outleap.points import require_point
from outleap.polygons import Polygon


def determinant(mapping):
    a, b, c, d, p, q = mapping
    return a * d - b * c


def is_map(value):
    """Return whether any value is a map (a, b, c, d, p, q)."""
    if not isinstance(value, tuple) or len(value) != 6:
        return False
    if not all([is_whole(part) for part in value]):
        return False
    return abs(determinant(value)) == 1


def require_map(value):
    if not is_map(value):
        raise InvalidMap(value)


def require_factor(value):
    if not is_whole(value) or value < 1:
        raise InvalidFactor(value)


def mapped(mapping, place):
    """Return the image of a point without bounds; it is in lowest terms, since the inverse map has integers too."""
    a, b, c, d, p, q = mapping
    x, y, size = place
    return (a * x + b * y + p * size, c * x + d * y + q * size, size)


def transform(polygon, mapping):
    """Return the image of a polygon."""
    require_map(mapping)
    corners = []
    for x, y in polygon.vertices():
        image = mapped(mapping, (x, y, 1))
        corners.append((image[0], image[1]))
    # A negative determinant makes counterclockwise clockwise.
    if determinant(mapping) < 0:
        corners.reverse()
    return Polygon(corners)


def transform_point(mapping, point):
    """Return the image of a point."""
    require_map(mapping)
    require_point(point)
    return mapped(mapping, point)


def inverse(mapping):
    """Return the inverse map."""
    require_map(mapping)
    a, b, c, d, p, q = mapping
    # Dividing by the determinant is multiplying by it, since it is 1 or -1.
    sign = determinant(mapping)
    return (sign * d, -sign * b, -sign * c, sign * a, sign * (b * q - d * p), sign * (c * p - a * q))


def compose(first, second):
    """Return the map that applies first and then second."""
    require_map(first)
    require_map(second)
    a, b, c, d, p, q = first
    e, f, g, h, r, s = second
    return (e * a + f * c, e * b + f * d, g * a + h * c, g * b + h * d, e * p + f * q + r, g * p + h * q + s)


def scale(polygon, factor):
    """Return the polygon with all coordinates multiplied by a factor."""
    require_factor(factor)
    return Polygon([(factor * x, factor * y) for x, y in polygon.vertices()])


def scale_point(point, factor):
    """Return the point with both coordinates multiplied by a factor."""
    require_point(point)
    require_factor(factor)
    x, y, d = point
    return lowest_terms(factor * x, factor * y, d)
