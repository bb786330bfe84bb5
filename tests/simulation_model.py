"""A simulation that performs reflections one by one and keeps everything, to compare results with."""

from outleap import errors
from outleap.modulus import modulus
from outleap.polygons import Polygon
from tests import oracle, ring_oracle

LETTERS = "abcdefghijklmnopqrstuvwxyz"


class Expected(Exception):
    """The error that an action or a query should raise, with its only attribute."""

    def __init__(self, kind, *given):
        self.kind, self.given = kind, given


def check_modulus(polygon):
    if modulus(polygon) > 4096:
        raise Expected(errors.ModulusTooLarge, modulus(polygon))


def image(mapping, point):
    a, b, c, d, p, q = mapping
    x, y, m = point
    return (a * x + b * y + p * m, c * x + d * y + q * m, m)


class Model:
    def __init__(self, polygon):
        self.versions = [(polygon, {})]
        self.done = []

    def add(self, action, polygon, points):
        self.versions.append((polygon, points))
        self.done.append(action)

    def known(self, points, name):
        if type(name) is not str or name not in list(points):
            raise Expected(errors.UnknownName, name)

    def place(self, name, point):
        polygon, points = self.versions[-1]
        if type(name) is not str or not 1 <= len(name) <= 8 or any(letter not in LETTERS for letter in name):
            raise Expected(errors.InvalidName, name)
        if type(point) is not tuple or len(point) != 3:
            raise Expected(errors.InvalidPoint, point)
        if oracle.is_inside(polygon, point):
            raise Expected(errors.NotOutside, point)
        self.add(("place", name, point), polygon, dict(points, **{name: point}))

    def advance(self, name, steps):
        polygon, points = self.versions[-1]
        self.known(points, name)
        if type(steps) is not int or abs(steps) > 10 ** 40:
            raise Expected(errors.InvalidCount, steps)
        check_modulus(polygon)
        used, path = oracle.path(polygon, points[name], abs(steps), 1 if steps > 0 else -1)
        if len(used) < abs(steps):
            raise Expected(errors.Undefined, len(used))
        self.add(("advance", name, steps), polygon, dict(points, **{name: path[-1]}))

    def remove(self, name):
        polygon, points = self.versions[-1]
        self.known(points, name)
        self.add(("remove", name), polygon, {other: points[other] for other in points if other != name})

    def transform_all(self, mapping):
        polygon, points = self.versions[-1]
        if type(mapping) is not tuple or mapping[0] * mapping[3] - mapping[1] * mapping[2] not in (1, -1):
            raise Expected(errors.InvalidMap, mapping)
        corners = [image(mapping, (x, y, 1))[:2] for x, y in polygon.vertices()]
        if max(abs(part) for corner in corners for part in corner) > 60:
            raise Expected(errors.InvalidPolygon, "vertices")
        moved = {name: image(mapping, point) for name, point in points.items()}
        self.add(("transform_all", mapping), Polygon(oracle.hull(corners)), moved)

    def replace_polygon(self, vertices):
        points = self.versions[-1][1]
        if not 3 <= len(vertices) <= 6 or max(abs(part) for corner in vertices for part in corner) > 60:
            raise Expected(errors.InvalidPolygon, "vertices")
        corners = oracle.hull(vertices)
        if list(vertices) not in [corners[at:] + corners[:at] for at in range(len(corners))]:
            raise Expected(errors.InvalidPolygon, "order")
        polygon = Polygon(corners)
        for name in sorted(points):
            if oracle.is_inside(polygon, points[name]):
                raise Expected(errors.NotOutside, points[name])
        self.add(("replace_polygon", tuple(vertices)), polygon, dict(points))

    def undo(self):
        if not self.done:
            raise Expected(errors.EmptyHistory)
        self.versions.pop()
        self.done.pop()

    def position(self, name, version):
        points = self.versions[version][1]
        self.known(points, name)
        return points[name]

    def period(self, name, version):
        polygon, points = self.versions[version]
        self.known(points, name)
        check_modulus(polygon)
        closed, before, used, path = oracle.whole(polygon, points[name])
        return len(used) if closed else None

    def enclosed(self, index, version):
        polygon, points = self.versions[version]
        check_modulus(polygon)
        if type(index) is not int or index < 1:
            raise Expected(errors.InvalidRing, index)
        path = ring_oracle.outline(polygon, ring_oracle.rows(polygon, index))
        return [name for name in sorted(points) if ring_oracle.contains(path, ring_oracle.place_of(points[name]))]

    def shared_orbits(self, version):
        polygon, points = self.versions[version]
        check_modulus(polygon)
        orbits = {name: oracle.whole(polygon, points[name])[3] for name in points}
        return sorted(
            (first, second) for first in points for second in points
            if first < second and points[second] in orbits[first])
