"""Regions of rings: their copies, and all that these enclose."""

from outleap.arithmetic import cross, edges_of, fraction, is_below, pair_shift, side_of_line, signed_area
from outleap.cells import bounds_of, corners_within, is_within
from outleap.checks import require_outside
from outleap.courses import Course
from outleap.errors import RegionTooLarge
from outleap.modulus import sectors
from outleap.outlines import outline_of, surrounds
from outleap.points import lies_outside
from outleap.rings import ring_chain

LARGEST_AREA = (100, 1)


def comes_inside(corners, place, step, count):
    """Return whether one of the points place + t * step, for t from 0 to count - 1, lies in the polygon."""
    low = 0
    high = count - 1
    for start, end in edges_of(corners):
        side = side_of_line(start, end, place)
        change = place[2] * cross((end[0] - start[0], end[1] - start[1]), step)
        # A point is on the inner side of this edge if side + t * change is not negative.
        if change > 0:
            low = max(low, -(side // change))
        elif change < 0:
            high = min(high, side // -change)
        elif side < 0:
            return False
    return low <= high


def is_in_copy(corners, row, point):
    """Return whether one of the copies of a row contains a point."""
    (a, b, m), near, far, count = row
    x, y, d = point
    shift = pair_shift(corners[near], corners[far])
    corner = corners[far]
    # Instead of each copy, the polygon stays where it is, and the point is moved back, or turned back.
    moved = (m * x - d * a, m * y - d * b, m * d)
    turned = (2 * m * d * corner[0] - moved[0], 2 * m * d * corner[1] - moved[1], m * d)
    if comes_inside(corners, moved, (-shift[0], -shift[1]), count):
        return True
    return comes_inside(corners, turned, shift, count)


def is_in_region(corners, rows, point):
    """Return whether the region of a ring contains a point outside the polygon."""
    if surrounds(outline_of(corners, rows), point):
        return True
    return any([is_in_copy(corners, row, point) for row in rows])


def region_contains(polygon, index, point):
    """Return whether the region of the ring with this index contains the point."""
    require_outside(polygon, point)
    return is_in_region(polygon.vertices(), ring_chain(polygon, index), point)


def doubled_area(corners):
    """Return twice the area of a polygon."""
    return sum([cross(start, end) for start, end in edges_of(corners)])


def doubled_part(corners, start, end):
    """Return twice the area of the part of a polygon to the left of the line from one vertex to another one."""
    part = [corners[start]]
    at = end
    while at != start:
        part.append(corners[at])
        at = (at + 1) % len(corners)
    return doubled_area(part)


def region_area(polygon, index):
    """Return the area of the region of the ring with this index as a fraction."""
    corners = polygon.vertices()
    rows = ring_chain(polygon, index)
    whole = doubled_area(corners)
    outside = -whole
    for before, (start, near, far, count) in edges_of(rows):
        # The outline cuts a straight copy and the flipped one behind it along the same line, but one of them is turned
        # around, so their parts outside add up to one polygon. It cuts the first copy of a row along another line.
        outside += count * whole - doubled_part(corners, near, far) + doubled_part(corners, before[1], far)
    n, d = signed_area(outline_of(corners, rows))
    # The outline runs clockwise.
    return fraction(outside * d - 2 * n, 2 * d)


def places_around(polygon, corner):
    """Return points close to the corner of a cell, one for each sector between neighbouring directions, all around."""
    x, y, d = corner
    pairs = sectors(polygon)
    ways = [(start[0] + end[0], start[1] + end[1]) for start, end in pairs]
    # The edges of cells lie on lines on which the cross product with a direction is an integer. At the corner it is a
    # multiple of 1 / d, so a change by less than that crosses no line beside the corner.
    fine = 1 + max([abs(cross(start, way)) for way in ways for start, end in pairs])
    return [
        (fine * x + sign * way[0], fine * y + sign * way[1], fine * d) for sign in (1, -1) for way in ways]


def cells_around(polygon, rows, corner):
    """Return the corners of each cell that touches the corner of a cell and lies in the region of a ring."""
    found = []
    bounds = None
    for place in places_around(polygon, corner):
        if bounds is not None and is_within(bounds, place):
            continue
        if lies_outside(polygon, place) and is_in_region(polygon.vertices(), rows, place):
            bounds = bounds_of(polygon, Course(polygon, place))
            found.append(corners_within(bounds))
    return found


def cells_in_region(polygon, index):
    """Return the ascending list of the cells in the region, each as the list of its corners."""
    rows = ring_chain(polygon, index)
    area = region_area(polygon, index)
    if is_below(LARGEST_AREA, area):
        raise RegionTooLarge(area)
    seen = {}
    found = {}
    todo = [(x, y, 1) for x, y in polygon.vertices()]
    # Every cell of the region touches a corner of the polygon, or a corner of another cell for which the same holds.
    while len(todo) > 0:
        corner = todo.pop()
        if corner not in seen:
            seen[corner] = True
            for cell in cells_around(polygon, rows, corner):
                found[tuple(cell)] = True
                todo += cell
    return sorted([list(cell) for cell in found])
