"""Strictly convex polygons with integer vertices."""

from outleap.arithmetic import is_whole, side_of_line
from outleap.errors import InvalidPolygon

FEWEST_VERTICES = 3
MOST_VERTICES = 6
LARGEST_COORDINATE = 60


def is_vertex(value):
    if not isinstance(value, tuple) or len(value) != 2:
        return False
    return all([is_whole(part) and abs(part) <= LARGEST_COORDINATE for part in value])


def are_vertices(value):
    if not isinstance(value, (list, tuple)):
        return False
    if len(value) < FEWEST_VERTICES or len(value) > MOST_VERTICES:
        return False
    return all([is_vertex(item) for item in value])


def rotated(vertices, start):
    """Return the vertices in the same cyclic order, from the one at index start on."""
    return tuple(vertices[start:] + vertices[:start])


def is_strictly_convex(vertices):
    """Return whether the vertices are strictly convex in counterclockwise order."""
    # A repeated vertex needs no test of its own: it is not to the left of an edge that starts at the same
    # place, and nothing is to the left of an edge without length.
    # Comparing each edge with all vertices, not only with the next one, rules out winding around twice.
    for at in range(len(vertices)):
        start, end, *others = rotated(vertices, at)
        if not all([side_of_line(start, end, (x, y, 1)) > 0 for x, y in others]):
            return False
    return True


class Polygon:
    """A polygon that never changes, with its vertices in counterclockwise order."""

    __slots__ = ("corners",)

    def __init__(self, vertices):
        if not are_vertices(vertices):
            raise InvalidPolygon("vertices")
        if not is_strictly_convex(vertices):
            raise InvalidPolygon("order")
        self.corners = rotated(vertices, vertices.index(min(vertices)))

    def __eq__(self, other):
        return isinstance(other, Polygon) and self.corners == other.corners

    def __len__(self):
        return len(self.corners)

    def vertices(self):
        """Return the list of vertices in counterclockwise order, starting at the smallest one."""
        return list(self.corners)
