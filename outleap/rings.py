"""Rings: closed chains of polygon copies that orbits never leave."""

from outleap.arithmetic import cross, fraction
from outleap.chains import flipped_copy, least_index, ring_rows, straight_copy
from outleap.checks import require_index, require_modulus, require_outside
from outleap.modulus import directions
from outleap.outlines import outline_of, surrounds
from outleap.strips import outermost


def ring_chain(polygon, index):
    """Return the list of the rows (start, near, far, count) of a ring."""
    require_modulus(polygon)
    require_index(index)
    return ring_rows(polygon, index)


def index_of(polygon, place):
    """Return what ring_index does, for a point outside the polygon that may exceed the bounds."""
    require_modulus(polygon)
    return least_index(polygon, place)


def ring_index(polygon, point):
    """Return the least index of a ring that contains the point."""
    require_outside(polygon, point)
    return index_of(polygon, point)


def ring_contains(polygon, index, point):
    """Return whether the ring with the index contains the point."""
    require_outside(polygon, point)
    return surrounds(outline_of(polygon.vertices(), ring_chain(polygon, index)), point)


def outer_corners(corners, rows):
    """Return the corners of the first and of the last copies of each row; all other copies lie between these."""
    found = []
    for row in rows:
        for times in (0, row[3] - 1):
            copy = straight_copy(corners, row, times)
            found += copy + flipped_copy(copy, row[2])
    return found


def ring_extent(polygon, index):
    """Return the list of (e, low, high) for the corners of all copies of a ring."""
    corners = outer_corners(polygon.vertices(), ring_chain(polygon, index))
    rows = []
    for e in directions(polygon):
        places = [fraction(cross(e, (x, y)), d) for x, y, d in corners]
        rows.append((e, outermost(places, -1), outermost(places, 1)))
    return rows
