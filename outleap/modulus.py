"""Edge directions, far away shifts and the modulus of a polygon."""

from outleap.arithmetic import cross, edges_of, greatest_divisor, pair_shift


def upward(vector):
    """Return the primitive vector along the same line that points up, or to the right if it is level."""
    x, y = vector
    size = greatest_divisor(x, y)
    if y < 0 or (y == 0 and x < 0):
        size = -size
    return (x // size, y // size)


def directions(polygon):
    """Return the list of the distinct directions of the edges, by angle."""
    found = []
    for start, end in edges_of(polygon.vertices()):
        direction = upward((end[0] - start[0], end[1] - start[1]))
        if direction not in found:
            found.append(direction)
    # All angles are below a half turn, so the number of directions to the right of one is its place.
    return sorted(found, key=lambda one: len([other for other in found if cross(other, one) > 0]))


def sectors(polygon):
    """Return the list of pairs of neighbouring directions; the last pair ends with the first one negated."""
    found = directions(polygon)
    x, y = found[0]
    return list(zip(found, found[1:] + [(-x, -y)]))


def far_shifts(polygon):
    """Return the list of (near, far, shift), seen from far away between neighbouring directions."""
    corners = polygon.vertices()
    rows = []
    for start, end in sectors(polygon):
        # No edge is parallel to a direction between two neighbours, so both ends are single vertices.
        outward = (start[0] + end[0], start[1] + end[1])
        places = [cross(outward, corner) for corner in corners]
        near = places.index(max(places))
        far = places.index(min(places))
        rows.append((near, far, pair_shift(corners[near], corners[far])))
    return rows


def sector_widths(polygon):
    """Return the list of pairs (w_i, w_(i + 1)); a width is the cross product of a direction and a far shift."""
    widths = []
    for (start, end), (near, far, shift) in zip(sectors(polygon), far_shifts(polygon)):
        widths.append(abs(cross(start, shift)))
    return edges_of(widths)


def modulus(polygon):
    """Return the modulus, however large it is."""
    found = 1
    for (start, end), (width, after) in zip(sectors(polygon), sector_widths(polygon)):
        product = width * after
        part = product // greatest_divisor(product, cross(start, end))
        found = found * part // greatest_divisor(found, part)
    return found
