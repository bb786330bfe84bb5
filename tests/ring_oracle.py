"""What the document says about rings, word by word and in fractions, to compare results with.

A place is a pair of fractions.
"""

from fractions import Fraction
from math import gcd, lcm

from tests import oracle


def modulus(polygon):
    """All such integers are the multiples of the denominators of D_i / (w_i * w_(i + 1))."""
    return lcm(*[Fraction(turn, width * after).denominator for turn, width, after in oracle.sector_rows(polygon)])


def rows(polygon, index):
    """The rows of [40], from the definition."""
    corners = polygon.vertices()
    turns = oracle.directions(polygon)
    turns.append((-turns[0][0], -turns[0][1]))
    size = index * modulus(polygon)
    found = []
    for at in range(len(turns) - 2, -1, -1):
        near, far, shift = oracle.far_row(corners, turns[at], turns[at + 1])
        turn, width, after = oracle.sector_rows(polygon)[at]
        count = Fraction(size * turn, width * after)
        assert count.denominator == 1
        x, y = Fraction(size, after) * turns[at + 1][0], Fraction(size, after) * turns[at + 1][1]
        found.append((oracle.as_point((x, y)), near, far, int(count)))
    return found + opposite(found)


def opposite(found):
    return [((-x, -y, d), far, near, count) for (x, y, d), near, far, count in found]


def place_of(point):
    x, y, d = point
    return (Fraction(x, d), Fraction(y, d))


def moved(place, shift, times=1):
    return (place[0] + times * shift[0], place[1] + times * shift[1])


def turned(place, center):
    return (2 * center[0] - place[0], 2 * center[1] - place[1])


def shift_of(polygon, row):
    corners = polygon.vertices()
    (a, b), (c, d) = corners[row[1]], corners[row[2]]
    return (2 * (c - a), 2 * (d - b))


def copies_of_row(polygon, row, times):
    """The straight copy after that many translations, and the flipped copy after it, as lists of places."""
    start = moved(place_of(row[0]), shift_of(polygon, row), times)
    straight = [moved(start, corner) for corner in polygon.vertices()]
    return straight, [turned(place, straight[row[2]]) for place in straight]


def all_copies(polygon, found):
    """All copies of a ring in their order, each as the list of the places of its vertices by number."""
    return [copy for row in found for times in range(row[3]) for copy in copies_of_row(polygon, row, times)]


def outline(polygon, found):
    """The places of the outline, as [41] describes them."""
    corners = polygon.vertices()
    path = []
    for at, row in enumerate(found):
        after = found[(at + 1) % len(found)]
        path.append(moved(place_of(row[0]), corners[row[2]]))
        path.append(moved(place_of(after[0]), corners[row[1]]))
    return path


def segments(path):
    return list(zip(path, path[1:] + path[:1]))


def is_on(path, place):
    """Whether a closed path passes through a place."""
    for (a, b), (c, d) in segments(path):
        along, gap = (c - a, d - b), (place[0] - a, place[1] - b)
        square = along[0] ** 2 + along[1] ** 2
        share = gap[0] * along[0] + gap[1] * along[1]
        if oracle.cross(along, gap) == 0 and 0 <= share <= square:
            return True
    return False


def winding(path, place):
    """How often the path winds counterclockwise around a place that is not on it: it crosses a ray that goes up."""
    total = 0
    for (a, b), (c, d) in segments(path):
        if (a <= place[0]) != (c <= place[0]):
            level = b + (d - b) * Fraction(place[0] - a) / (c - a)
            if level > place[1]:
                total += 1 if c < a else -1
    return total


def contains(path, place):
    return is_on(path, place) or winding(path, place) != 0


def in_convex(corners, place):
    """Whether a place is in a convex polygon, whose corners are counterclockwise, or on its boundary."""
    return all(
        oracle.cross((c - a, d - b), (place[0] - a, place[1] - b)) >= 0 for (a, b), (c, d) in segments(corners))


def is_start(value):
    if not isinstance(value, tuple) or len(value) != 3 or any(type(part) is not int for part in value):
        return False
    return value[2] >= 1 and gcd(*value) == 1


def is_row(value, size):
    if not isinstance(value, tuple) or len(value) != 4 or not is_start(value[0]):
        return False
    start, near, far, count = value
    if type(near) is not int or type(far) is not int or near not in range(size) or far not in range(size):
        return False
    return near != far and type(count) is int and count >= 1


def is_in_cone(corners, vertex, place):
    def side(edge):
        (a, b), (c, d) = segments(corners)[edge]
        return oracle.cross((c - a, d - b), (place[0] - a, place[1] - b))
    return side(vertex - 1) <= 0 and side(vertex) >= 0


def broken_conditions(polygon, point, value):
    """The names of the conditions of [42] that the value does not satisfy."""
    if not isinstance(value, (list, tuple)) or len(value) < 4 or len(value) % 2:
        return {"number"}
    if not all(is_row(row, len(polygon)) for row in value):
        return {"row"}
    corners, found = polygon.vertices(), set()
    half = len(value) // 2
    for at, row in enumerate(value):
        after, across = value[(at + 1) % len(value)], value[(at + half) % len(value)]
        if moved(place_of(row[0]), shift_of(polygon, row), row[3]) != place_of(after[0]):
            found.add("next")
        if opposite([row]) != [across]:
            found.add("opposite")
        for times in (0, row[3] - 1):
            straight = copies_of_row(polygon, row, times)[0]
            if not all(is_in_cone(corners, row[1], place) for place in straight):
                found.add("near")
            if not all(is_in_cone(corners, row[2], turned(place, corners[row[1]])) for place in straight):
                found.add("far")
    path = outline(polygon, value)
    inside = (Fraction(sum(x for x, y in corners), len(corners)), Fraction(sum(y for x, y in corners), len(corners)))
    if is_on(path, inside) or winding(path, inside) != -1:
        found.add("winding")
    if not contains(path, place_of(point)):
        found.add("point")
    return found
