"""What the document says about reflections, word by word and step by step, to compare results with."""

import random
from fractions import Fraction
from math import gcd

from outleap.polygons import Polygon


def cross(first, second):
    return first[0] * second[1] - first[1] * second[0]


def tangent(corners, point, way=1):
    """The vertex with all others strictly to the left (forward) or to the right (backward), or None."""
    x, y, d = point
    seen = [(d * a - x, d * b - y) for a, b in corners]
    for at, ray in enumerate(seen):
        if all(way * cross(ray, other) > 0 for to, other in enumerate(seen) if to != at):
            return at
    return None


def through(point, corner):
    x, y, d = point
    return (2 * d * corner[0] - x, 2 * d * corner[1] - y, d)


def path(polygon, point, most, way=1):
    """The vertices and the points of at most that many reflections; the first point is the given one."""
    corners = polygon.vertices()
    used, points = [], [point]
    while len(used) < most:
        at = tangent(corners, points[-1], way)
        if at is None:
            break
        used.append(at)
        points.append(through(points[-1], corners[at]))
    return used, points


def whole(polygon, point, most=20000):
    """(closed, before, vertices, points) of an orbit.

    A closed orbit starts at the point and its last point is not repeated; an orbit that ends starts at its first
    point, and the given one has the index before.
    """
    corners = polygon.vertices()
    used, points = [], [point]
    while True:
        at = tangent(corners, points[-1])
        if at is None:
            break
        used.append(at)
        image = through(points[-1], corners[at])
        if image == point:
            return True, 0, used, points
        points.append(image)
        assert len(points) < most
    back_used, back = path(polygon, point, most, -1)
    assert len(back_used) < most
    return False, len(back_used), back_used[::-1] + used, back[:0:-1] + points


def is_inside(polygon, point):
    """Whether the point is inside or on the boundary."""
    x, y, d = point
    corners = polygon.vertices()
    pairs = zip(corners, corners[1:] + corners[:1])
    return all(cross((c - a, e - b), (x - d * a, y - d * b)) >= 0 for (a, b), (c, e) in pairs)


def lowest(x, y, d):
    size = gcd(x, y, d)
    return (x // size, y // size, d // size)


def fraction(value):
    value = Fraction(value)
    return (value.numerator, value.denominator)


def points_around(polygon, reach, denominators, step=1):
    """All points outside with these denominators and numerators up to the reach."""
    found = []
    for d in denominators:
        for x in range(-reach, reach + 1, step):
            for y in range(-reach, reach + 1, step):
                if gcd(x, y, d) == 1 and not is_inside(polygon, (x, y, d)):
                    found.append((x, y, d))
    return found


def hull(vertices):
    """The corners of the convex hull, counterclockwise from the smallest (monotone chain)."""
    def half(points):
        chain = []
        for x, y in points:
            while len(chain) >= 2:
                (a, b), (c, e) = chain[-2:]
                if cross((c - a, e - b), (x - c, y - e)) > 0:
                    break
                chain.pop()
            chain.append((x, y))
        return chain[:-1]
    ordered = sorted(set(vertices))
    return half(ordered) + half(ordered[::-1])


def random_polygons(seed, count, reach):
    """Polygons of 3, 4, 5, 6, 3, .. vertices with coordinates up to the reach."""
    source = random.Random(seed)
    found = []
    while len(found) < count:
        corners = hull([(source.randint(-reach, reach), source.randint(-reach, reach)) for at in range(8)])
        wanted = 3 + len(found) % 4
        # Any vertices of a strictly convex polygon are one.
        if len(corners) >= wanted:
            keep = sorted(source.sample(range(len(corners)), wanted))
            found.append(Polygon([corners[at] for at in keep]))
    return found


def random_points(seed, polygon, count, reach, denominators):
    """Points outside with coordinates up to the reach."""
    source = random.Random(seed)
    found = []
    while len(found) < count:
        d = source.choice(denominators)
        point = lowest(source.randint(-reach * d, reach * d), source.randint(-reach * d, reach * d), d)
        if not is_inside(polygon, point):
            found.append(point)
    return found


def modulus_by_search(polygon):
    """The smallest integer from 1 on that makes all c * D / (w * w') integers, from the definition."""
    rows = sector_rows(polygon)
    found = 1
    while any(found * turn % (width * after) != 0 for turn, width, after in rows):
        found += 1
    return found


def sector_rows(polygon):
    """(D_i, w_i, w_(i + 1)) for each i, from tangent vertices seen from far away."""
    corners = polygon.vertices()
    turns = directions(polygon)
    turns.append((-turns[0][0], -turns[0][1]))
    rows = []
    for start, end in zip(turns, turns[1:]):
        shift = far_row(corners, start, end)[2]
        rows.append((cross(start, end), abs(cross(start, shift)), abs(cross(end, shift))))
    return rows


def far_row(corners, start, end):
    far = (10 ** 9 * (start[0] + end[0]), 10 ** 9 * (start[1] + end[1]), 1)
    near, other = tangent(corners, far, 1), tangent(corners, far, -1)
    (a, b), (c, e) = corners[near], corners[other]
    return (near, other, (2 * (c - a), 2 * (e - b)))


def directions(polygon):
    """Primitive directions of the edges by angle, with y > 0, or y = 0 and x > 0."""
    corners = polygon.vertices()
    found = set()
    for (a, b), (c, e) in zip(corners, corners[1:] + corners[:1]):
        x, y = c - a, e - b
        size = gcd(x, y)
        x, y = x // size, y // size
        found.add((x, y) if (y, x) > (0, 0) else (-x, -y))
    level = sorted(direction for direction in found if direction[1] == 0)
    return level + sorted(found - set(level), key=lambda vector: Fraction(-vector[0], vector[1]))


BOX = 10 ** 12


def clipped(places, condition):
    """The part of a convex polygon in which the linear condition is not negative."""
    values = [condition(place) for place in places]
    if min(values, default=0) >= 0:
        return places
    found = []
    for at, (x, y) in enumerate(places):
        (before_x, before_y), before, value = places[at - 1], values[at - 1], values[at]
        if before * value < 0:
            share = Fraction(before) / (before - value)
            found.append((before_x + share * (x - before_x), before_y + share * (y - before_y)))
        if value >= 0:
            found.append((x, y))
    return found


def region(polygon, word):
    """The closure of the region of a word within a huge box, as a list of corners; empty if it has no inside."""
    corners = polygon.vertices()
    places = [(-BOX, -BOX), (BOX, -BOX), (BOX, BOX), (-BOX, BOX)]
    sign, x, y = 1, 0, 0
    for vertex in word:
        a, b = corners[vertex]
        for c, e in corners[:vertex] + corners[vertex + 1:]:
            def is_left(place):
                return cross((a - x - sign * place[0], b - y - sign * place[1]), (c - a, e - b))
            places = clipped(places, is_left)
        sign, x, y = -sign, 2 * a - x, 2 * b - y
    places = without_straight_corners(places)
    return places if len(places) > 2 else []


def without_straight_corners(places):
    places = [place for at, place in enumerate(places) if place != places[at - 1]]
    found = []
    for at, (x, y) in enumerate(places):
        (a, b), (c, e) = places[at - 1], places[(at + 1) % len(places)]
        if cross((x - a, y - b), (c - x, e - y)) != 0:
            found.append((x, y))
    return found


def bounds_of_region(polygon, places):
    """(e, low, high) for each direction, or None for an empty region; what reaches far out is not finite."""
    if not places:
        return None
    rows = []
    for turn in directions(polygon):
        values = [cross(turn, place) for place in places]
        ends = [fraction(end) if abs(end) < BOX // 1000 else None for end in (min(values), max(values))]
        rows.append((turn, *ends))
    return rows


def as_point(place):
    x, y = Fraction(place[0]), Fraction(place[1])
    return lowest(x.numerator * y.denominator, y.numerator * x.denominator, x.denominator * y.denominator)


def area_of(places):
    total = sum(cross(place, places[at - 1]) for at, place in enumerate(places))
    return fraction(Fraction(-total, 2))
