"""Single reflections of a point outside a polygon."""

from outleap.checks import require_outside
from outleap.tangents import BACKWARD, FORWARD, reflected, vertices_ahead


def tangent_vertex(polygon, point):
    """Return the number of the right tangent vertex."""
    require_outside(polygon, point)
    return vertices_ahead(polygon.vertices(), point, 1, FORWARD)[0]


def stepped(polygon, point, way):
    """Return the image under one reflection forward or backward."""
    require_outside(polygon, point)
    corners = polygon.vertices()
    return reflected(point, corners[vertices_ahead(corners, point, 1, way)[0]])


def reflect(polygon, point):
    """Return the image of the point under one reflection."""
    return stepped(polygon, point, FORWARD)


def reflect_back(polygon, point):
    """Return the image of the point under one backward reflection."""
    return stepped(polygon, point, BACKWARD)


def trace(polygon, point, steps):
    """Return the list of the point and its images after 1, 2, .. reflections."""
    require_outside(polygon, point)
    corners = polygon.vertices()
    found = [point]
    for at in vertices_ahead(corners, point, steps, FORWARD):
        found.append(reflected(found[-1], corners[at]))
    return found
