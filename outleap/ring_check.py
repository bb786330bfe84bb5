"""Whether a value is a ring, whoever made it."""

from outleap.arithmetic import edges_of, pair_shift, side_of_line
from outleap.chains import straight_copy
from outleap.checks import require_outside
from outleap.outlines import outline_of, surrounds, winding_number
from outleap.rows import is_row
from outleap.tangents import reflected

FEWEST_ROWS = 4


def are_rows(value, size):
    """Return whether a value is a list or a tuple of an even number of rows, for a polygon of that many vertices."""
    if not isinstance(value, (list, tuple)) or len(value) < FEWEST_ROWS or len(value) % 2 == 1:
        return False
    return all([is_row(row, size) for row in value])


def is_closed(corners, rows):
    """Return whether each row leads to the start of the next one, and the last row to the first one."""
    for row, after in edges_of(rows):
        (x, y, d), near, far, count = row
        shift = pair_shift(corners[near], corners[far])
        if after[0] != (x + d * count * shift[0], y + d * count * shift[1], d):
            return False
    return True


def is_symmetric(rows):
    """Return whether the second half of the rows repeats the first one, turned around."""
    half = len(rows) // 2
    turned = [((-x, -y, d), far, near, count) for (x, y, d), near, far, count in rows[:half]]
    return turned == rows[half:]


def is_in_cone(corners, vertex, point):
    """Return whether a point is in the closed cone of a vertex: not left of the edge before, not right of its own."""
    edges = edges_of(corners)
    start, end = edges[vertex - 1]
    own_start, own_end = edges[vertex]
    return side_of_line(start, end, point) <= 0 <= side_of_line(own_start, own_end, point)


def stays_in_cones(corners, row):
    """Return whether the points of the straight copies of a row are reflected through near and then through far."""
    start, near, far, count = row
    for times in (0, count - 1):
        for place in straight_copy(corners, row, times):
            if not is_in_cone(corners, near, place):
                return False
            if not is_in_cone(corners, far, reflected(place, corners[near])):
                return False
    return True


def inner_point(corners):
    """Return a point inside the polygon; it need not be in lowest terms."""
    return (sum([x for x, y in corners]), sum([y for x, y in corners]), len(corners))


def check_ring(polygon, point, value):
    """Return whether any value is a ring of the polygon that contains the point."""
    require_outside(polygon, point)
    if not are_rows(value, len(polygon)):
        return False
    corners = polygon.vertices()
    rows = list(value)
    if not is_closed(corners, rows) or not is_symmetric(rows):
        return False
    if not all([stays_in_cones(corners, row) for row in rows]):
        return False
    # Within the cones, no outline passes through the inside of the polygon.
    outline = outline_of(corners, rows)
    return winding_number(outline, inner_point(corners)) == -1 and surrounds(outline, point)
