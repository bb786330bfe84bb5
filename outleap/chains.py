"""Rings as rows (start, near, far, count) of polygon copies, without any limits."""

from outleap.arithmetic import cross, lowest_terms, pair_shift
from outleap.modulus import far_shifts, modulus, sector_widths, sectors
from outleap.outlines import corner_of_copy, outline_of, surrounds


def first_ring(polygon):
    """Return the rows of the ring with the index 1."""
    size = modulus(polygon)
    rows = []
    for (start, end), (near, far, shift), widths in zip(sectors(polygon), far_shifts(polygon), sector_widths(polygon)):
        count = size * cross(start, end) // (widths[0] * widths[1])
        rows.append((lowest_terms(size * end[0], size * end[1], widths[1]), near, far, count))
    # Rings run clockwise, but directions are sorted counterclockwise.
    half = rows[::-1]
    return half + [((-x, -y, d), far, near, count) for (x, y, d), near, far, count in half]


def enlarged(rows, index):
    """Return the rows of the ring with this index, for those of the ring with the index 1."""
    return [
        (lowest_terms(index * x, index * y, d), near, far, index * count) for (x, y, d), near, far, count in rows]


def ring_rows(polygon, index):
    """Return the rows of the ring with this index."""
    return enlarged(first_ring(polygon), index)


def straight_copy(corners, row, times):
    """Return the corners of the straight copy of a row after that many translations."""
    (x, y, d), near, far, count = row
    shift = pair_shift(corners[near], corners[far])
    start = (x + d * times * shift[0], y + d * times * shift[1], d)
    return [corner_of_copy(start, corner) for corner in corners]


def flipped_copy(copy, far):
    """Return the corners of a straight copy after a half turn around its corner number far."""
    x, y, d = copy[far]
    # All corners of a copy have the same denominator.
    return [(2 * x - a, 2 * y - b, d) for a, b, m in copy]


def index_estimate(corners, rows, point):
    """Return about the least index of a ring that contains a point, for the rows of the ring with the index 1."""
    x, y, d = point
    found = 1
    for (a, b, m), near, far, count in rows:
        # The long part of the outline that belongs to a row lies on a line along the shift of the row.
        shift = pair_shift(corners[near], corners[far])
        corner = corners[far]
        distance = m * cross(shift, (x - d * corner[0], y - d * corner[1]))
        found = max(found, -(-distance // (d * cross(shift, (a, b)))))
    return found


def least_index(polygon, point):
    """Return the least index of a ring that contains a point outside the polygon, however far away it is."""
    corners = polygon.vertices()
    rows = first_ring(polygon)

    def contains(index):
        return surrounds(outline_of(corners, enlarged(rows, index)), point)

    found = index_estimate(corners, rows, point)
    while not contains(found):
        found += 1
    # A ring contains all that the smaller ones contain.
    while found > 1 and contains(found - 1):
        found -= 1
    return found
