"""Closed paths through rings, and what lies within them."""

from outleap.arithmetic import edges_of


def corner_of_copy(start, corner):
    """Return a corner of the polygon translated by a point (x, y, d); its denominator stays the same."""
    x, y, d = start
    return (x + d * corner[0], y + d * corner[1], d)


def outline_of(corners, rows):
    """Return the outline of a ring as a list of points; the path goes straight from each to the next one."""
    path = []
    for before, (start, near, far, count) in edges_of(rows):
        # The copy touches the one before it with the vertex that is near in the row before.
        path.append(corner_of_copy(start, corners[before[1]]))
        path.append(corner_of_copy(start, corners[far]))
    return path


def turn(first, second, third):
    """Return a positive number if three points (x, y, d) are in counterclockwise order.

    The number is negative if they are in clockwise order, and 0 if they lie on one line.
    """
    a, b, c = first
    e, f, g = second
    x, y, d = third
    return a * (f * d - g * y) - b * (e * d - g * x) + c * (e * y - f * x)


def is_between(start, end, point, at):
    """Return whether a coordinate of the point, x for 0 and y for 1, is between those of start and end."""
    first = start[at] * point[2] - point[at] * start[2]
    second = end[at] * point[2] - point[at] * end[2]
    return min(first, second) <= 0 <= max(first, second)


def passes_through(path, point):
    """Return whether a closed path passes through a point."""
    for start, end in edges_of(path):
        if is_between(start, end, point, 0) and is_between(start, end, point, 1) and turn(start, end, point) == 0:
            return True
    return False


def winding_number(path, point):
    """Return how often a closed path winds counterclockwise around a point that it does not pass through."""
    x, y, d = point
    total = 0
    for start, end in edges_of(path):
        # Only the parts of the path that cross the level of the point to its right count.
        rises = start[1] * d <= y * start[2]
        if rises and end[1] * d > y * end[2] and turn(start, end, point) > 0:
            total += 1
        if not rises and end[1] * d <= y * end[2] and turn(start, end, point) < 0:
            total -= 1
    return total


def surrounds(path, point):
    """Return whether a closed path passes through a point or winds around it."""
    return passes_through(path, point) or winding_number(path, point) != 0
