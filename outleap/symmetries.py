"""Half turns, and the maps that send a polygon to itself."""

from outleap.affine import mapped
from outleap.arithmetic import cross
from outleap.errors import InvalidPolygon
from outleap.points import require_point
from outleap.polygons import Polygon


def half_turn(polygon, center):
    """Return the polygon rotated by 180 degrees around a point."""
    require_point(center)
    x, y, d = center
    # In lowest terms, twice a point has integer coordinates only for these two denominators.
    if d != 1 and d != 2:
        raise InvalidPolygon("vertices")
    return Polygon([(2 * x // d - a, 2 * y // d - b) for a, b in polygon.vertices()])


def linear_part(first, second, first_image, second_image):
    """Return a, b, c and d of the map that sends two vectors to their images, or None if it needs fractions."""
    size = cross(first, second)
    found = []
    for at in (0, 1):
        found.append(first_image[at] * second[1] - second_image[at] * first[1])
        found.append(second_image[at] * first[0] - first_image[at] * second[0])
    if any([part % size != 0 for part in found]):
        return None
    return [part // size for part in found]


def difference(start, end):
    return (end[0] - start[0], end[1] - start[1])


def map_between(corners, images):
    """Return the map that sends each corner to the image in the same place, or None if there is none."""
    start, after, last, *others = corners
    goal, goal_after, goal_last, *other_goals = images
    found = linear_part(
        difference(start, after), difference(start, last), difference(goal, goal_after), difference(goal, goal_last))
    if found is None:
        return None
    a, b, c, d = found
    p = goal[0] - a * start[0] - b * start[1]
    q = goal[1] - c * start[0] - d * start[1]
    mapping = (a, b, c, d, p, q)
    if [mapped(mapping, (x, y, 1)) for x, y in others] != [(x, y, 1) for x, y in other_goals]:
        return None
    return mapping


def symmetries(polygon):
    """Return the ascending list of all maps that send the polygon to itself."""
    corners = polygon.vertices()
    found = []
    for start in range(len(corners)):
        # Neighbours stay neighbours, in the same order or in the opposite one.
        images = corners[start:] + corners[:start]
        found += [map_between(corners, images), map_between(corners, images[::-1])]
    return sorted([mapping for mapping in found if mapping is not None])
