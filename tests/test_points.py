import copy
import itertools
import math
import unittest
from fractions import Fraction

from outleap import points
from outleap.errors import InvalidPoint
from outleap.points import is_outside, is_point
from outleap.polygons import Polygon
from tests.values import FAR, FINE, OTHER_VALUES, SQUARE, TRIANGLE

HEXAGON = Polygon([(-3, -1), (0, -3), (3, -2), (4, 1), (1, 3), (-2, 2)])

BEYOND_BOUNDS = [
    (0, 1, 0), (1, 0, 0), (0, 0, 0), (0, 1, -1), (1, 1, -2), (-1, -1, -FINE), (1, 1, -(10 ** 999)),
    (1, 1, FINE + 1), (1, 1, 10 ** 999),
    (FAR + 1, 0, 1), (-FAR - 1, 0, 1), (0, FAR + 1, 1), (0, -FAR - 1, 1),
    (FAR * 2 + 1, 1, 2), (-FAR * 2 - 1, 1, 2), (1, FAR * 2 + 1, 2), (1, -FAR * 2 - 1, 2),
    (FAR * FINE + 1, 1, FINE), (-FAR * FINE - 1, 1, FINE), (1, FAR * FINE + 1, FINE), (1, -FAR * FINE - 1, FINE),
    (10 ** 999, 1, FINE), (1, -(10 ** 999), 1),
]

NOT_IN_LOWEST_TERMS = [
    (2, 0, 2), (0, 2, 2), (0, 0, 2), (0, 0, FINE), (-2, 4, 2), (-3, -6, 3), (-2, 0, 2), (0, -3, 3),
    (6, 10, 4), (2 * FAR, -2 * FAR, 2), (FINE, -FINE, FINE), (5, 10, FINE), (6, 15, 21),
]

WRONG_KINDS = [
    (True, 1, 1), (1, True, 1), (1, 1, True), (False, 1, 1), (0, False, 1), (1, 1, False), (True, True, True),
    [1, 1, 1], [5, 1, 2], (1, 1), (1, 1, 1, 1), (1,), (), ([1], 1, 1), ((1,), (1,), (1,)), (1, 1, None),
    (None, 1, 1), (1, "1", 1), ("1", 1, 1), (1, 1, "1"), "111", "5/2 1/2", {0: 1, 1: 1, 2: 1}, (1, 1, {}),
]

NO_POINTS = OTHER_VALUES + BEYOND_BOUNDS + NOT_IN_LOWEST_TERMS + WRONG_KINDS


class IsPointTest(unittest.TestCase):
    def assert_point(self, value):
        with self.subTest(repr(value)[:60]):
            self.assertIs(is_point(value), True)

    def assert_no_point(self, value):
        with self.subTest(repr(value)[:60]):
            before = copy.deepcopy(value)
            self.assertIs(is_point(value), False)
            self.assertEqual(value, before)

    def test_examples_of_the_document(self):
        self.assert_point((5, 1, 2))
        self.assert_no_point((2, 0, 2))

    def test_ordinary_points(self):
        for value in ((0, 0, 1), (1, 1, 1), (-1, -2, 3), (2, 1, 2), (1, 2, 2), (0, 1, 7), (-5, 0, 7), (6, 10, 15)):
            self.assert_point(value)

    def test_bounds_of_d(self):
        self.assert_point((FAR, 3, 1))
        self.assert_point((1, 1, FINE))
        self.assert_point((-1, 0, FINE))
        self.assert_point((1, 1, FINE - 1))

    def test_bounds_of_the_coordinates(self):
        for x, y in itertools.product((FAR, -FAR), repeat=2):
            self.assert_point((x, y, 1))
            self.assert_point((x * 2, y // abs(y), 2))
            self.assert_point((x // abs(x), y * FINE, FINE))
        for sign in (1, -1):
            self.assert_point((sign * (FAR * FINE - 1), 1, FINE))
            self.assert_point((1, sign * (FAR * FINE - 1), FINE))

    def test_beyond_the_bounds(self):
        for value in BEYOND_BOUNDS:
            self.assert_no_point(value)

    def test_not_in_lowest_terms(self):
        for value in NOT_IN_LOWEST_TERMS:
            self.assert_no_point(value)

    def test_all_small_numbers(self):
        for x, y, d in itertools.product(range(-7, 8), range(-7, 8), range(-3, 13)):
            self.assertIs(is_point((x, y, d)), d >= 1 and math.gcd(x, y, d) == 1)

    def test_other_values(self):
        for value in OTHER_VALUES + WRONG_KINDS:
            self.assert_no_point(value)

    def test_argument_by_name(self):
        self.assertIs(is_point(value=(5, 1, 2)), True)
        self.assertIs(is_point(value=[5, 1, 2]), False)


def on_edge(start, end, place):
    """Whether a place lies on the segment, by its distance along the segment."""
    along = (end[0] - start[0], end[1] - start[1])
    square = along[0] ** 2 + along[1] ** 2
    share = ((place[0] - start[0]) * along[0] + (place[1] - start[1]) * along[1]) / Fraction(square)
    foot = (start[0] + share * along[0], start[1] + share * along[1])
    return 0 <= share <= 1 and foot == place


def crossings(corners, place):
    """How many edges a ray from the place to the right crosses."""
    count = 0
    for start, end in zip(corners, corners[1:] + corners[:1]):
        if (start[1] > place[1]) != (end[1] > place[1]):
            share = (place[1] - start[1]) / Fraction(end[1] - start[1])
            if start[0] + share * (end[0] - start[0]) > place[0]:
                count += 1
    return count


def expected_outside(polygon, point):
    corners = polygon.vertices()
    place = (Fraction(point[0], point[2]), Fraction(point[1], point[2]))
    if any(on_edge(start, end, place) for start, end in zip(corners, corners[1:] + corners[:1])):
        return False
    return crossings(corners, place) % 2 == 0


class IsOutsideTest(unittest.TestCase):
    def assert_outside(self, expected, polygon, *given):
        for point in given:
            with self.subTest(point):
                self.assertIs(is_outside(polygon, point), expected)

    def test_examples_of_the_document(self):
        self.assert_outside(False, TRIANGLE, (1, 1, 2))
        self.assert_outside(True, TRIANGLE, (1, 1, 1))

    def test_inside(self):
        self.assert_outside(False, TRIANGLE, (1, 1, 3), (1, 1, 4), (1, 2, 4))
        self.assert_outside(False, SQUARE, (1, 1, 2), (1, 999999, FINE))
        self.assert_outside(False, HEXAGON, (0, 0, 1), (3, 1, 1), (-4, 3, 2))

    def test_on_vertices(self):
        for polygon in (TRIANGLE, SQUARE, HEXAGON):
            for x, y in polygon.vertices():
                self.assert_outside(False, polygon, (x, y, 1))

    def test_on_edges(self):
        for polygon in (TRIANGLE, SQUARE, Polygon([(0, 0), (2, 0), (4, 2), (4, 4), (2, 4), (0, 2)])):
            corners = polygon.vertices()
            for (a, b), (c, d) in zip(corners, corners[1:] + corners[:1]):
                # The number of parts is a prime beyond the differences, so the sums are in lowest terms.
                x, y = 7 * a + 3 * (c - a), 7 * b + 3 * (d - b)
                self.assert_outside(False, polygon, (x, y, 7))

    def test_on_the_line_of_an_edge_but_off_the_edge(self):
        for polygon in (TRIANGLE, SQUARE, HEXAGON):
            corners = polygon.vertices()
            for (a, b), (c, d) in zip(corners, corners[1:] + corners[:1]):
                self.assert_outside(True, polygon, (2 * c - a, 2 * d - b, 1), (2 * a - c, 2 * b - d, 1))

    def test_close_to_the_boundary(self):
        self.assert_outside(True, TRIANGLE, (-1, 1, FINE), (1, -1, FINE), (1, 10 ** 6, FINE), (500001, 500000, FINE))
        self.assert_outside(False, TRIANGLE, (0, 1, FINE), (1, 0, FINE), (1, 1, FINE), (499999, 500001, FINE))
        self.assert_outside(True, SQUARE, (FINE + 1, 1, FINE), (1, FINE + 1, FINE), (-1, -1, FINE))
        self.assert_outside(False, SQUARE, (FINE, 1, FINE), (1, FINE, FINE), (FINE - 1, FINE - 1, FINE))

    def test_far_away(self):
        for polygon in (TRIANGLE, SQUARE, HEXAGON):
            for x, y in itertools.product((FAR, 0, -FAR), repeat=2):
                if x != 0 or y != 0:
                    self.assert_outside(True, polygon, (x, y, 1))
            self.assert_outside(True, polygon, (FAR * FINE, 1, FINE), (-1, -FAR * FINE, FINE))

    def test_many_points(self):
        for polygon in (TRIANGLE, SQUARE, HEXAGON):
            for x, y, d in itertools.product(range(-12, 13), range(-12, 13), (1, 2, 3)):
                if math.gcd(x, y, d) == 1:
                    point = (x, y, d)
                    self.assertIs(is_outside(polygon, point), expected_outside(polygon, point), point)

    def test_any_other_value(self):
        for value in NO_POINTS:
            with self.subTest(repr(value)[:60]):
                before = copy.deepcopy(value)
                with self.assertRaises(InvalidPoint) as caught:
                    is_outside(SQUARE, value)
                self.assertIs(caught.exception.value, value)
                self.assertEqual(value, before)
                self.assertEqual(SQUARE.vertices(), [(0, 0), (1, 0), (1, 1), (0, 1)])

    def test_arguments_by_name(self):
        self.assertIs(is_outside(polygon=TRIANGLE, point=(1, 1, 1)), True)
        self.assertIs(is_outside(point=(1, 1, 2), polygon=TRIANGLE), False)

    def test_interface_stands_in_its_file(self):
        for function in (is_point, is_outside):
            self.assertEqual(function.__module__, points.__name__)
