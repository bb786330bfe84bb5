"""Cells: the points that use the same vertices for ever."""

from outleap.arithmetic import cross, edges_of, is_below, lowest_terms, pair_shift, signed_area
from outleap.checks import require_modulus, require_outside
from outleap.courses import Course
from outleap.errors import NotPeriodic
from outleap.strips import Strips


def periodic_course(polygon, point):
    """Return the whole orbit of a periodic point outside the polygon."""
    require_modulus(polygon)
    course = Course(polygon, point)
    if course.ending:
        raise NotPeriodic(point)
    return course


def bounds_of(polygon, course):
    """Return the bounds of the cell in which a closed orbit begins."""
    strips = Strips(polygon)
    start_x, start_y, d = course.point_at(0)
    for taken, x, y, first, second, count in course.runs:
        corner = course.corners[first]
        shift = pair_shift(corner, course.corners[second])
        # Between the first and the last pair of a run, no line comes closer.
        for pairs in (0, count - 1):
            moved_x = (x - start_x) // d + pairs * shift[0]
            moved_y = (y - start_y) // d + pairs * shift[1]
            strips.keep_users(first, 1, (moved_x, moved_y))
            strips.keep_users(second, -1, (2 * corner[0] - moved_x, 2 * corner[1] - moved_y))
    return strips.tight_bounds()


def is_within(bounds, point):
    """Return whether a point lies strictly within bounds."""
    x, y, d = point
    for e, low, high in bounds:
        place = (cross(e, (x, y)), d)
        if not is_below(low, place) or not is_below(place, high):
            return False
    return True


def half_length(polygon, course):
    """Return the odd number of reflections that turns the cell around its center, or None if there is none."""
    half = course.length // 2
    if half % 2 == 1 and is_within(bounds_of(polygon, course), course.point_at(half)):
        return half
    return None


def crossing(first, second):
    """Return the point at which two lines cross.

    A line is given as its direction and the cross product of this with its points, as a fraction; the second
    direction is to the left of the first one.
    """
    e, (n, d) = first
    f, (k, m) = second
    x = n * m * f[0] - k * d * e[0]
    y = n * m * f[1] - k * d * e[1]
    return lowest_terms(x, y, cross(e, f) * d * m)


def is_smaller(first, second):
    """Return whether a point is smaller than another one, by x and then by y."""
    x, y, d = first
    k, j, m = second
    return (x * m, y * m) < (k * d, j * d)


def from_smallest(corners):
    """Return the corners in the same cyclic order, from the smallest one on."""
    start = 0
    for at in range(len(corners)):
        if is_smaller(corners[at], corners[start]):
            start = at
    return corners[start:] + corners[:start]


def corners_within(bounds):
    """Return the corners of a cell, counterclockwise from the smallest one."""
    lines = [(e, low) for e, low, high in bounds]
    lines += [((-e[0], -e[1]), (-high[0], high[1])) for e, low, high in bounds]
    # The lines are sorted by angle and each touches the cell, so neighbours meet at a corner.
    found = []
    for line, after in edges_of(lines):
        corner = crossing(line, after)
        if corner not in found:
            found.append(corner)
    return from_smallest(found)


def cell_bounds(polygon, point):
    """Return the list of (e, low, high) for the directions of the polygon."""
    require_outside(polygon, point)
    return bounds_of(polygon, periodic_course(polygon, point))


def cell_vertices(polygon, point):
    """Return the list of the corners of the cell, counterclockwise from the smallest one."""
    return corners_within(cell_bounds(polygon, point))


def cell_area(polygon, point):
    """Return the area of the cell as a fraction."""
    return signed_area(corners_within(cell_bounds(polygon, point)))


def same_cell(polygon, point, other):
    """Return whether the second point lies in the cell of the first one."""
    require_outside(polygon, point)
    require_outside(polygon, other)
    return is_within(bounds_of(polygon, periodic_course(polygon, point)), other)


def cell_period(polygon, point):
    """Return the least number of reflections that maps the cell onto itself, and whether it is odd."""
    require_outside(polygon, point)
    course = periodic_course(polygon, point)
    half = half_length(polygon, course)
    if half is None:
        return (course.length, False)
    return (half, True)


def cell_center(polygon, point):
    """Return the center of the cell if a half turn maps it onto itself, otherwise None."""
    require_outside(polygon, point)
    course = periodic_course(polygon, point)
    half = half_length(polygon, course)
    if half is None:
        return None
    x, y, d = course.point_at(0)
    turned = course.point_at(half)
    return lowest_terms(x + turned[0], y + turned[1], 2 * d)
