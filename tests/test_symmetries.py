import itertools
import unittest
from fractions import Fraction

from outleap import symmetries as module
from outleap.affine import compose, inverse, transform
from outleap.errors import InvalidPoint, InvalidPolygon
from outleap.polygons import Polygon
from outleap.symmetries import half_turn, symmetries
from tests import oracle
from tests.test_affine import determinant, image
from tests.test_points import NO_POINTS
from tests.values import FAR, FINE, MODULUS_HUGE, POLYGONS, RING_POLYGONS, SQUARE, TRIANGLE, rotations

# Vertices and how many symmetries they have.
COUNTS = [
    (1, [(-2, -1), (-1, -2), (1, 2)]), (2, [(-1, 1), (1, -1), (1, 0)]), (3, [(-2, 1), (1, -1), (0, 2)]),
    (6, [(-1, 0), (0, 0), (1, 1)]), (1, [(-1, -1), (0, -1), (1, 1), (-1, 1)]), (2, [(-1, 0), (0, -1), (1, 0), (-1, 1)]),
    (4, [(-1, -1), (0, -1), (0, 1), (-1, 1)]), (8, [(-1, -1), (1, -1), (1, 1), (-1, 1)]),
    (1, [(-2, 2), (-1, -1), (0, -1), (1, 0), (1, 2)]), (2, [(-1, -1), (1, -1), (1, 0), (0, 1), (-1, 1)]),
    (1, [(-2, -1), (0, -2), (1, 0), (1, 1), (-1, 2), (-2, 1)]),
    (2, [(-1, -1), (0, -2), (2, 0), (2, 2), (0, 2), (-1, 0)]),
    (3, [(-1, -2), (1, -1), (2, 0), (1, 1), (0, 1), (-1, -1)]),
    (4, [(-2, 1), (1, -2), (2, -2), (2, -1), (-1, 2), (-2, 2)]),
    (6, [(-2, -1), (-1, -1), (1, 1), (1, 2), (-1, 2), (-2, 1)]),
    (12, [(-1, 0), (0, -1), (1, -1), (1, 0), (0, 1), (-1, 1)]),
    # The first one can be turned by a quarter, but not mirrored; the second one is a regular hexagon before a map.
    (4, [(-1, -2), (2, -1), (1, 2), (-2, 1)]), (12, [(0, 0), (7, 3), (16, 7), (18, 8), (11, 5), (2, 1)]),
]


def solved(places, images):
    """The affine map between three places and three images, by Cramer's rule, as six fractions."""
    (a, b), (c, d), (e, f) = places
    size = oracle.cross((c - a, d - b), (e - a, f - b))
    rows = []
    for at in (0, 1):
        u, v, w = [one[at] for one in images]
        x = Fraction((v - u) * (f - b) - (w - u) * (d - b), size)
        y = Fraction((c - a) * (w - u) - (e - a) * (v - u), size)
        rows.append((x, y, u - x * a - y * b))
    (p, q, r), (s, t, u) = rows
    return (p, q, s, t, r, u)


def by_search(polygon):
    """All maps that send three vertices to any three vertices, and the polygon to itself."""
    corners = polygon.vertices()
    found = set()
    for images in itertools.permutations(corners, 3):
        mapping = solved(corners[:3], images)
        if all(part.denominator == 1 for part in mapping) and abs(determinant(mapping)) == 1:
            if sorted(image(mapping, corner) for corner in corners) == sorted(corners):
                found.add(tuple(int(part) for part in mapping))
    return sorted(found)


class HalfTurnTest(unittest.TestCase):
    def assert_vertices(self, polygon, center):
        with self.assertRaises(InvalidPolygon) as caught:
            half_turn(polygon, center)
        self.assertEqual(caught.exception.reason, "vertices")

    def test_example_of_the_document(self):
        self.assertEqual(half_turn(TRIANGLE, (1, 1, 2)).vertices(), [(0, 1), (1, 0), (1, 1)])

    def test_denominators_1_and_2(self):
        for polygon in POLYGONS:
            for x, y, d in itertools.product(range(-9, 10), range(-9, 10), (1, 2)):
                if oracle.lowest(x, y, d) == (x, y, d):
                    result = half_turn(polygon, (x, y, d))
                    self.assertIs(type(result), Polygon)
                    places = [(Fraction(2 * x, d) - a, Fraction(2 * y, d) - b) for a, b in polygon.vertices()]
                    self.assertEqual(result, Polygon([(int(a), int(b)) for a, b in places]))
                    self.assertEqual(half_turn(result, (x, y, d)), polygon)

    def test_other_denominators(self):
        for center in ((1, 1, 3), (1, 0, 4), (2, 1, 4), (1, 2, 4), (1, 1, FINE), (2, 3, 6), (3, 2, 6), (5, 0, 6)):
            for polygon in (SQUARE, TRIANGLE, MODULUS_HUGE):
                self.assert_vertices(polygon, center)

    def test_bounds(self):
        self.assertEqual(half_turn(SQUARE, (30, 30, 1)).vertices(), [(59, 59), (60, 59), (60, 60), (59, 60)])
        self.assertEqual(half_turn(SQUARE, (-59, -59, 2)).vertices(), [(-60, -60), (-59, -60), (-59, -59), (-60, -59)])
        self.assertEqual(half_turn(SQUARE, (30, -59, 2)).vertices(), [(29, -60), (30, -60), (30, -59), (29, -59)])
        for center in ((61, 0, 2), (0, 61, 2), (-61, 0, 2), (0, -61, 2), (31, 0, 1), (-30, 0, 1), (FAR, FAR, 1),
                       (0, -FAR, 1), (2 * FAR - 1, 1, 2)):
            self.assert_vertices(SQUARE, center)

    def test_centers_inside_on_the_boundary_and_at_vertices(self):
        self.assertEqual(half_turn(SQUARE, (1, 1, 2)), SQUARE)
        self.assertEqual(half_turn(SQUARE, (1, 0, 2)).vertices(), [(0, -1), (1, -1), (1, 0), (0, 0)])
        self.assertEqual(half_turn(SQUARE, (0, 0, 1)).vertices(), [(-1, -1), (0, -1), (0, 0), (-1, 0)])

    def test_values_that_are_no_points(self):
        for value in NO_POINTS:
            for polygon in (SQUARE, MODULUS_HUGE):
                with self.assertRaises(InvalidPoint) as caught:
                    half_turn(polygon, value)
                self.assertIs(caught.exception.value, value)

    def test_arguments_by_name(self):
        self.assertEqual(half_turn(center=(1, 1, 2), polygon=TRIANGLE), half_turn(TRIANGLE, (1, 1, 2)))


class SymmetriesTest(unittest.TestCase):
    def test_example_of_the_document(self):
        polygon = Polygon([(0, 0), (2, 0), (1, 1), (0, 1)])
        self.assertEqual(symmetries(polygon), [(-1, -1, 0, 1, 2, 0), (1, 0, 0, 1, 0, 0)])

    def test_counts(self):
        self.assertEqual({count for count, vertices in COUNTS}, {1, 2, 3, 4, 6, 8, 12})
        for count, vertices in COUNTS:
            self.assertEqual(len(symmetries(Polygon(vertices))), count, vertices)

    def test_against_all_maps_between_three_vertices(self):
        polygons = [Polygon(vertices) for count, vertices in COUNTS] + RING_POLYGONS
        for polygon in polygons + oracle.random_polygons(51, 80, 2) + oracle.random_polygons(52, 20, 60):
            self.assertEqual(symmetries(polygon), by_search(polygon), polygon.vertices())

    def test_each_sends_the_polygon_to_itself(self):
        for count, vertices in COUNTS:
            polygon = Polygon(vertices)
            found = symmetries(polygon)
            self.assertIn((1, 0, 0, 1, 0, 0), found)
            for mapping in found:
                self.assertIs(type(mapping), tuple)
                self.assertEqual({type(part) for part in mapping}, {int})
                self.assertEqual(transform(polygon, mapping), polygon)
                self.assertIn(inverse(mapping), found)
            for first, second in itertools.product(found, repeat=2):
                self.assertIn(compose(first, second), found)

    def test_maps_that_need_fractions_are_none(self):
        # A turn by a third of this triangle has no integer coefficients.
        self.assertEqual(len(symmetries(Polygon([(0, 0), (3, 0), (0, 1)]))), 2)
        self.assertEqual(len(symmetries(Polygon([(0, 0), (2, 0), (2, 1), (0, 1)]))), 4)

    def test_any_first_vertex(self):
        for count, vertices in COUNTS:
            for given in rotations(vertices):
                self.assertEqual(symmetries(Polygon(given)), symmetries(Polygon(vertices)))

    def test_a_returned_list_is_new(self):
        result = symmetries(polygon=TRIANGLE)
        self.assertIs(type(result), list)
        expected = list(result)
        result.clear()
        self.assertEqual(symmetries(TRIANGLE), expected)
        self.assertEqual(TRIANGLE.vertices(), [(0, 0), (1, 0), (0, 1)])

    def test_interface_stands_in_its_file(self):
        for function in (half_turn, symmetries):
            self.assertEqual(function.__module__, module.__name__)
