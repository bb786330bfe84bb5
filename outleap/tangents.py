"""Tangent vertices, and single reflections through them."""

from outleap.arithmetic import cross, edges_of
from outleap.errors import Undefined

FORWARD = 1
# The left tangent vertex is the right one with left and right exchanged, that is, with all signs changed.
BACKWARD = -1


def edge_rows(corners, d, way):
    """Return a row (a, b, c) for each edge.

    For a point (x, y, d), a * y - b * x - c is positive to the left of the edge and negative to the right; if the
    way is backward, it is the other way around.
    """
    rows = []
    for start, end in edges_of(corners):
        a = way * (end[0] - start[0])
        b = way * (end[1] - start[1])
        rows.append((a, b, d * cross((a, b), start)))
    return rows


def tangent(rows, x, y):
    """Return the number of the tangent vertex of a point outside, or None if there is none."""
    a, b, c = rows[-1]
    before = a * y - b * x - c
    for at, (a, b, c) in enumerate(rows):
        side = a * y - b * x - c
        # A line that touches the polygon only here has the edge before this vertex and the edge after it on
        # different sides.
        if before < 0 < side:
            return at
        before = side
    return None


def reflected(point, corner):
    """Return the point on the other side of a corner; its denominator stays the same."""
    x, y, d = point
    return (2 * d * corner[0] - x, 2 * d * corner[1] - y, d)


def vertices_ahead(corners, point, steps, way):
    """Return the list of the numbers of the vertices that the next reflections of a point outside use."""
    rows = edge_rows(corners, point[2], way)
    found = []
    for performed in range(steps):
        at = tangent(rows, point[0], point[1])
        if at is None:
            raise Undefined(performed)
        found.append(at)
        point = reflected(point, corners[at])
    return found
