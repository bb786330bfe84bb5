"""Orbits near some polygons, step by step."""

from tests import oracle
from tests.values import POLYGONS


def orbits_around(polygon, reach, denominators, step):
    """The list of (polygon, point, closed, before, vertices, points), see oracle.whole."""
    points = oracle.points_around(polygon, reach, denominators, step)
    return [(polygon, point, *oracle.whole(polygon, point)) for point in points]


NEAR = [row for polygon in POLYGONS for row in orbits_around(polygon, 7, (1, 2, 3), 2)]
