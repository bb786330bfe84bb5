import copy
import itertools
import math
import unittest
from fractions import Fraction

from outleap import affine
from outleap.affine import compose, inverse, scale, scale_point, transform, transform_point
from outleap.cells import cell_vertices
from outleap.errors import InvalidFactor, InvalidMap, InvalidPoint, InvalidPolygon
from outleap.modulus import modulus
from outleap.orbits import period_of, point_after
from outleap.points import is_outside
from outleap.polygons import Polygon
from outleap.rings import ring_chain, ring_index
from tests import oracle, ring_oracle
from tests.test_points import NO_POINTS
from tests.values import FAR, FINE, KITE, NO_INTEGERS, OTHER_VALUES, PENTAGON, POLYGONS, SQUARE, TRIANGLE

IDENTITY = (1, 0, 0, 1, 0, 0)
# With determinant 1, and with determinant -1.
STRAIGHT = [
    IDENTITY, (0, -1, 1, 0, 0, 0), (-1, 0, 0, -1, 3, -4), (1, 1, 0, 1, 2, 3), (2, 1, 1, 1, -5, 7), (1, 0, -3, 1, 0, 9),
    (-2, -3, 1, 1, 10, -11), (1, 0, 0, 1, 40, -40), (3, 5, 1, 2, 0, -1)]
MIRRORED = [
    (0, 1, 1, 0, 0, 0), (1, 0, 0, -1, 0, 0), (-1, 0, 0, 1, 4, 4), (1, 1, 0, -1, 2, 3), (2, 1, 1, 0, -5, 7),
    (1, 2, 2, 3, 0, -30), (-2, 3, 1, -1, 9, 1)]
MAPS = STRAIGHT + MIRRORED
GREAT = [(1, 10 ** 999, 0, 1, -(10 ** 999), 7), (10 ** 500, 10 ** 500 - 1, 1, 1, 0, 10 ** 900), (0, 1, 1, 10 ** 999, 1, 1)]

NO_MAPS = OTHER_VALUES + [
    [1, 0, 0, 1, 0, 0], (1, 0, 0, 1, 0), (1, 0, 0, 1, 0, 0, 0), (0, 0, 0, 0, 0, 0), (2, 0, 0, 1, 0, 0),
    (2, 0, 0, 2, 0, 0), (1, 1, 1, 1, 0, 0), (1, 2, 3, 4, 0, 0), (1, 0, 0, 0, 0, 0), (1, 0, 0, -2, 0, 0),
    (True, 0, 0, 1, 0, 0), (1, False, 0, 1, 0, 0), (1, 0, False, 1, 0, 0), (1, 0, 0, True, 0, 0),
    (1, 0, 0, 1, False, 0), (1, 0, 0, 1, 0, True), (1, 0, 0, 1, None, 0), (1, 0, 0, 1, 0, "0"), ("1", 0, 0, 1, 0, 0),
    ((1, 0), (0, 1), (0, 0)), (1, 0, 0, 1, (), ()), "1 0 0 1 0 0", "100100", {0: 1, 1: 0, 2: 0, 3: 1, 4: 0, 5: 0},
    (10 ** 999, 0, 0, 1, 0, 0), ([1], 0, 0, 1, 0, 0), ((1, 0, 0, 1, 0, 0),), (None,) * 6, (True,) * 6]
NO_FACTORS = NO_INTEGERS + [0, -1, -2, -(10 ** 999), (1,), [2], "2"]


def image(mapping, place):
    a, b, c, d, p, q = mapping
    x, y = place
    return (a * x + b * y + p, c * x + d * y + q)


def determinant(mapping):
    a, b, c, d, p, q = mapping
    return a * d - b * c


class AffineTestCase(unittest.TestCase):
    def assert_raises(self, kind, value, function, *given):
        before = copy.deepcopy(given)
        with self.assertRaises(kind) as caught:
            function(*given)
        self.assertIs(type(caught.exception), kind)
        (found,) = vars(caught.exception).values()
        self.assertIs(found, value)
        self.assertEqual(given, before)

    def assert_vertices(self, function, *given):
        with self.assertRaises(InvalidPolygon) as caught:
            function(*given)
        self.assertEqual(caught.exception.reason, "vertices")


class TransformTest(AffineTestCase):
    def test_examples_of_the_document(self):
        self.assertEqual(transform(TRIANGLE, (0, -1, 1, 0, 0, 0)).vertices(), [(-1, 0), (0, 0), (0, 1)])
        self.assertEqual(transform_point((0, -1, 1, 0, 0, 0), (5, 1, 2)), (-1, 5, 2))

    def test_images_of_polygons(self):
        for polygon in POLYGONS:
            for mapping in MAPS:
                expected = [image(mapping, corner) for corner in polygon.vertices()]
                if max(abs(part) for corner in expected for part in corner) <= 60:
                    result = transform(polygon, mapping)
                    self.assertIs(type(result), Polygon)
                    if determinant(mapping) == -1:
                        expected.reverse()
                    start = expected.index(min(expected))
                    self.assertEqual(result.vertices(), expected[start:] + expected[:start])
                    self.assertEqual(result, Polygon(expected))
                else:
                    self.assert_vertices(transform, polygon, mapping)

    def test_vertices_that_leave_the_bounds(self):
        for shift in ((59, 59), (-60, -60), (59, 0), (0, -60), (-60, 59)):
            moved = transform(SQUARE, (1, 0, 0, 1, *shift))
            self.assertEqual(moved.vertices()[0], shift)
            flipped = transform(SQUARE, (0, 1, 1, 0, *shift))
            self.assertEqual(flipped.vertices()[0], shift)
        for shift in ((60, 0), (0, 60), (-61, 0), (0, -61), (10 ** 999, 0), (0, -(10 ** 999))):
            self.assert_vertices(transform, SQUARE, (1, 0, 0, 1, *shift))
            self.assert_vertices(transform, SQUARE, (0, 1, 1, 0, *shift))
        self.assertEqual(transform(SQUARE, (59, 60, 58, 59, -59, -57)).vertices()[0], (-59, -57))
        self.assert_vertices(transform, SQUARE, (59, 60, 58, 59, -58, -57))

    def test_the_polygon_stays_as_it_was(self):
        polygon = Polygon([(0, 0), (1, 0), (0, 1)])
        transform(polygon, (0, 1, 1, 0, 5, 5))
        self.assertEqual(polygon.vertices(), [(0, 0), (1, 0), (0, 1)])

    def test_images_of_points(self):
        points = [(5, 1, 2), (0, 0, 1), (-7, 3, 11), (FAR, -FAR, 1), (FAR * FINE - 1, 1, FINE), (1, 2, 4), (2, 1, 6)]
        for mapping in MAPS + GREAT:
            for point in points:
                result = transform_point(mapping, point)
                self.assertIs(type(result), tuple)
                self.assertEqual(ring_oracle.place_of(result), image(mapping, ring_oracle.place_of(point)))
                self.assertEqual((result[2] >= 1, math.gcd(*result)), (True, 1))

    def test_points_may_lie_anywhere_and_images_may_exceed_the_bounds(self):
        self.assertEqual(transform_point((1, 1, 0, 1, 0, 0), (FAR, FAR, 1)), (2 * FAR, FAR, 1))
        self.assertEqual(transform_point((1, 0, 0, 1, 1, 0), (0, 0, 1)), (1, 0, 1))

    def test_maps_carry_reflections_along(self):
        for polygon in POLYGONS:
            for mapping in MAPS:
                if max(abs(part) for corner in polygon.vertices() for part in image(mapping, corner)) <= 60:
                    moved = transform(polygon, mapping)
                    self.assertEqual(modulus(moved), modulus(polygon))
                    for point in oracle.random_points(7, polygon, 3, 30, (2, 3)) + [(10 ** 30, 7, 3)]:
                        other = transform_point(mapping, point)
                        self.assertIs(is_outside(moved, other), True)
                        self.assertEqual(period_of(moved, other), period_of(polygon, point))
                        self.assertEqual(ring_index(moved, other), ring_index(polygon, point))
                        if period_of(polygon, point) is not None:
                            for steps in (1, 2, -1, 1001, -(10 ** 30)):
                                expected = transform_point(mapping, point_after(polygon, point, steps))
                                steps *= determinant(mapping)
                                self.assertEqual(point_after(moved, other, steps), expected)

    def test_maps_carry_single_reflections_along(self):
        for mapping in MAPS:
            moved = transform(TRIANGLE, mapping)
            for point in oracle.points_around(TRIANGLE, 9, (1, 2), 3):
                for way in (1, -1):
                    points = oracle.path(TRIANGLE, point, 8, way)[1]
                    images = oracle.path(moved, transform_point(mapping, point), 8, way * determinant(mapping))[1]
                    self.assertEqual([transform_point(mapping, one) for one in points], images)

    def test_maps_carry_rings_along(self):
        for mapping in MAPS:
            moved = transform(KITE, mapping) if max(map(abs, mapping)) < 8 else None
            if moved is not None:
                starts = {row[0] for row in ring_chain(KITE, 2)}
                linear = mapping[:4] + (0, 0)
                self.assertEqual({row[0] for row in ring_chain(moved, 2)}, {transform_point(linear, one) for one in starts})


class InverseTest(AffineTestCase):
    def test_example_of_the_document(self):
        self.assertEqual(inverse((1, 1, 0, 1, 2, 3)), (1, -1, 0, 1, 1, -3))

    def test_cancels(self):
        for mapping in MAPS + GREAT:
            back = inverse(mapping)
            self.assertIs(type(back), tuple)
            self.assertEqual(compose(mapping, back), IDENTITY)
            self.assertEqual(compose(back, mapping), IDENTITY)
            self.assertEqual(inverse(back), mapping)
            for place in ((0, 0), (1, 0), (0, 1), (Fraction(7, 3), -5)):
                self.assertEqual(image(back, image(mapping, place)), place)

    def test_cancels_for_points_and_polygons(self):
        for mapping in MAPS:
            self.assertEqual(transform_point(inverse(mapping), transform_point(mapping, (5, 1, 2))), (5, 1, 2))
            self.assertEqual(transform(transform(TRIANGLE, mapping), inverse(mapping)), TRIANGLE)


class ComposeTest(AffineTestCase):
    def test_example_of_the_document(self):
        self.assertEqual(compose((1, 1, 0, 1, 0, 0), (0, -1, 1, 0, 0, 0)), (0, -1, 1, 1, 0, 0))

    def test_applies_the_first_one_first(self):
        for first, second in itertools.product(MAPS + GREAT, repeat=2):
            both = compose(first, second)
            self.assertIs(type(both), tuple)
            for place in ((0, 0), (1, 0), (0, 1), (Fraction(7, 3), -5)):
                self.assertEqual(image(both, place), image(second, image(first, place)))

    def test_order_matters(self):
        self.assertNotEqual(compose(MAPS[1], MAPS[3]), compose(MAPS[3], MAPS[1]))

    def test_identity(self):
        for mapping in MAPS:
            self.assertEqual(compose(mapping, IDENTITY), mapping)
            self.assertEqual(compose(IDENTITY, mapping), mapping)


class ScaleTest(AffineTestCase):
    def test_examples_of_the_document(self):
        self.assertEqual(scale(TRIANGLE, 3).vertices(), [(0, 0), (3, 0), (0, 3)])
        self.assert_vertices(scale, TRIANGLE, 61)
        self.assertEqual(scale_point((5, 1, 2), 4), (10, 2, 1))

    def test_polygons(self):
        for polygon in POLYGONS:
            for factor in (1, 2, 3, 7, 10):
                expected = [(factor * x, factor * y) for x, y in polygon.vertices()]
                self.assertIs(type(scale(polygon, factor)), Polygon)
                self.assertEqual(scale(polygon, factor).vertices(), expected)

    def test_bounds(self):
        self.assertEqual(scale(SQUARE, 60).vertices(), [(0, 0), (60, 0), (60, 60), (0, 60)])
        self.assertEqual(scale(PENTAGON, 20).vertices()[0], (-20, 40))
        for polygon, factor in ((PENTAGON, 21), (SQUARE, 61), (SQUARE, 10 ** 999), (Polygon([(-60, 0), (0, 0), (0, 1)]), 2)):
            self.assert_vertices(scale, polygon, factor)

    def test_points(self):
        for point in ((5, 1, 2), (0, 0, 1), (-7, 3, 12), (1, 1, FINE), (FAR, -FAR, 1), (6, 10, 15)):
            for factor in (1, 2, 3, 4, 12, FINE, 10 ** 999):
                result = scale_point(point, factor)
                self.assertIs(type(result), tuple)
                x, y = ring_oracle.place_of(point)
                self.assertEqual(ring_oracle.place_of(result), (factor * x, factor * y))
                self.assertEqual((result[2] >= 1, math.gcd(*result)), (True, 1))

    def test_the_factor_1_changes_nothing(self):
        for polygon in POLYGONS:
            self.assertEqual(scale(polygon, 1), polygon)
        self.assertEqual(scale_point((-7, 3, 12), 1), (-7, 3, 12))

    def test_scaling_carries_orbits_and_cells_along(self):
        for polygon, factor in itertools.product(POLYGONS[:2] + POLYGONS[4:5], (2, 3, 5)):
            great = scale(polygon, factor)
            for point in oracle.random_points(8, polygon, 4, 30, (1, 2, 3)) + [(10 ** 30, 7, 3)]:
                other = scale_point(point, factor)
                self.assertEqual(period_of(great, other), period_of(polygon, point))
                if period_of(polygon, point) is not None:
                    for steps in (1, -7, 10 ** 30):
                        expected = scale_point(point_after(polygon, point, steps), factor)
                        self.assertEqual(point_after(great, other, steps), expected)
                    expected = [
                        oracle.lowest(factor * x, factor * y, d) for x, y, d in cell_vertices(polygon, point)]
                    self.assertEqual(cell_vertices(great, other), expected)


class ErrorTest(AffineTestCase):
    def test_values_that_are_no_maps(self):
        for value in NO_MAPS:
            self.assert_raises(InvalidMap, value, transform, SQUARE, value)
            self.assert_raises(InvalidMap, value, transform_point, value, (5, 1, 2))
            self.assert_raises(InvalidMap, value, inverse, value)
            self.assert_raises(InvalidMap, value, compose, value, IDENTITY)
            self.assert_raises(InvalidMap, value, compose, IDENTITY, value)

    def test_values_that_are_no_factors(self):
        for value in NO_FACTORS:
            self.assert_raises(InvalidFactor, value, scale, SQUARE, value)
            self.assert_raises(InvalidFactor, value, scale_point, (5, 1, 2), value)

    def test_values_that_are_no_points(self):
        for value in NO_POINTS:
            self.assert_raises(InvalidPoint, value, transform_point, IDENTITY, value)
            self.assert_raises(InvalidPoint, value, scale_point, value, 2)

    def test_order(self):
        for value in ("wrong", None, (1, 1, 1, 1, 0, 0)):
            for other in ("other", True, (2, 0, 2)):
                self.assert_raises(InvalidMap, value, transform_point, value, other)
                self.assert_raises(InvalidMap, value, compose, value, other)
                self.assert_raises(InvalidPoint, other, scale_point, other, value)
        # A map without an inverse that moves vertices out of the bounds is no map in the first place.
        value = (100, 0, 0, 100, 0, 0)
        self.assert_raises(InvalidMap, value, transform, SQUARE, value)
        self.assert_raises(InvalidFactor, -61, scale, SQUARE, -61)


class InterfaceTest(unittest.TestCase):
    def test_arguments_by_name(self):
        mapping = (0, -1, 1, 0, 0, 0)
        self.assertEqual(transform(mapping=mapping, polygon=TRIANGLE), transform(TRIANGLE, mapping))
        self.assertEqual(transform_point(point=(5, 1, 2), mapping=mapping), (-1, 5, 2))
        self.assertEqual(inverse(mapping=(1, 1, 0, 1, 2, 3)), (1, -1, 0, 1, 1, -3))
        self.assertEqual(compose(second=mapping, first=(1, 1, 0, 1, 0, 0)), (0, -1, 1, 1, 0, 0))
        self.assertEqual(scale(factor=3, polygon=TRIANGLE), scale(TRIANGLE, 3))
        self.assertEqual(scale_point(factor=4, point=(5, 1, 2)), (10, 2, 1))

    def test_interface_stands_in_its_file(self):
        for function in (transform, transform_point, inverse, compose, scale, scale_point):
            self.assertEqual(function.__module__, affine.__name__)
