import unittest

from outleap import reflections
from outleap.errors import Undefined
from outleap.reflections import reflect, reflect_back, tangent_vertex, trace
from tests import oracle
from tests.values import FAR, FINE, MODULUS_HUGE, POLYGONS, SQUARE, TRIANGLE

ALL = POLYGONS + [MODULUS_HUGE]


def edges(polygon):
    corners = polygon.vertices()
    return list(zip(corners, corners[1:] + corners[:1]))


def on_line(edge, n, d, aside=(0, 0), unit=1):
    """The point n / d edge lengths behind the start of the edge, moved by aside / unit."""
    (a, b), (c, e) = edge
    x = (a * d + n * (c - a)) * unit + aside[0] * d
    y = (b * d + n * (e - b)) * unit + aside[1] * d
    return oracle.lowest(x, y, d * unit)


class ReflectionTestCase(unittest.TestCase):
    def assert_undefined(self, steps, function, *given):
        with self.assertRaises(Undefined) as caught:
            function(*given)
        self.assertEqual(caught.exception.steps, steps)
        self.assertEqual(caught.exception.args, (steps,))

    def assert_as_defined(self, polygon, point):
        corners = polygon.vertices()
        at = oracle.tangent(corners, point, 1)
        if at is None:
            self.assert_undefined(0, tangent_vertex, polygon, point)
            self.assert_undefined(0, reflect, polygon, point)
        else:
            self.assertEqual(tangent_vertex(polygon, point), at)
            self.assertEqual(reflect(polygon, point), oracle.through(point, corners[at]))
        back = oracle.tangent(corners, point, -1)
        if back is None:
            self.assert_undefined(0, reflect_back, polygon, point)
        else:
            self.assertEqual(reflect_back(polygon, point), oracle.through(point, corners[back]))


class SingleReflectionTest(ReflectionTestCase):
    def test_examples_of_the_document(self):
        self.assertEqual(tangent_vertex(SQUARE, (5, 1, 2)), 2)
        self.assertEqual(reflect(SQUARE, (5, 1, 2)), (-1, 3, 2))
        self.assert_undefined(0, reflect, SQUARE, (-2, 0, 1))
        self.assertEqual(reflect_back(SQUARE, (-1, 3, 2)), (5, 1, 2))
        self.assert_undefined(0, reflect_back, SQUARE, (2, 0, 1))

    def test_points_near_the_polygon(self):
        for polygon in POLYGONS:
            for point in oracle.points_around(polygon, 9, (1, 2)):
                self.assert_as_defined(polygon, point)

    def test_points_near_a_large_polygon(self):
        for point in oracle.random_points(1, MODULUS_HUGE, 300, 120, (1, 2, 3, FINE)):
            self.assert_as_defined(MODULUS_HUGE, point)

    def test_far_away_points(self):
        for number, polygon in enumerate(ALL):
            for point in oracle.random_points(number, polygon, 40, FAR, (1, 2, 7, FINE)):
                self.assert_as_defined(polygon, point)
            for x, y in ((FAR, FAR), (-FAR, FAR), (FAR, -FAR), (-FAR, -FAR), (FAR, 0), (0, -FAR), (FAR, 1), (1, FAR)):
                self.assert_as_defined(polygon, (x, y, 1))

    def test_every_vertex_is_used(self):
        for polygon in POLYGONS:
            points = oracle.points_around(polygon, 9, (1,))
            found = {oracle.tangent(polygon.vertices(), point) for point in points} - {None}
            self.assertEqual(found, set(range(len(polygon))))

    def test_a_backward_reflection_undoes_a_reflection(self):
        for number, polygon in enumerate(ALL):
            for reach in (70, 1000, FAR // 100):
                for point in oracle.random_points(number, polygon, 20, reach, (2, 3, 101)):
                    if oracle.tangent(polygon.vertices(), point, 1) is not None:
                        self.assertEqual(reflect_back(polygon, reflect(polygon, point)), point)
                    if oracle.tangent(polygon.vertices(), point, -1) is not None:
                        self.assertEqual(reflect(polygon, reflect_back(polygon, point)), point)

    def test_images_keep_the_denominator(self):
        for d in (1, 2, 3, 4, 7, 999999, FINE):
            point = oracle.lowest(3 * d + 1, 5 * d + 1, d)
            self.assertEqual(reflect(SQUARE, point)[2], d)
            self.assertEqual(reflect_back(SQUARE, point)[2], d)

    def test_returned_points_may_exceed_the_bounds(self):
        self.assertEqual(reflect(SQUARE, (-FAR, -FAR, 1)), (FAR + 2, FAR, 1))
        self.assertEqual(reflect_back(SQUARE, (-FAR, -FAR, 1)), (FAR, FAR + 2, 1))


class LineOfAnEdgeTest(ReflectionTestCase):
    def test_before_the_start(self):
        for polygon in ALL:
            for edge in edges(polygon):
                for n, d in ((-1, 1), (-1, 2), (-7, 3), (-1, 1009), (-(10 ** 30), 1)):
                    point = on_line(edge, n, d)
                    self.assert_undefined(0, tangent_vertex, polygon, point)
                    self.assert_undefined(0, reflect, polygon, point)
                    self.assert_undefined(0, trace, polygon, point, 1)
                    self.assert_as_defined(polygon, point)
                # This close to the end of one edge, no point lies on the line of another one.
                self.assertIsInstance(reflect_back(polygon, on_line(edge, -1, 1009)), tuple)

    def test_beyond_the_end(self):
        for polygon in ALL:
            for edge in edges(polygon):
                for n, d in ((2, 1), (3, 2), (7, 3), (1010, 1009), (10 ** 30, 1)):
                    point = on_line(edge, n, d)
                    self.assert_undefined(0, reflect_back, polygon, point)
                    self.assert_as_defined(polygon, point)
                self.assertIsInstance(tangent_vertex(polygon, on_line(edge, 1010, 1009)), int)
                self.assertIsInstance(reflect(polygon, on_line(edge, 1010, 1009)), tuple)

    def test_very_close_to_the_line_on_both_sides(self):
        for polygon in ALL:
            for at, edge in enumerate(edges(polygon)):
                for n in (-1, -3, -(10 ** 30)):
                    for aside in ((1, 0), (-1, 0), (0, 1), (0, -1)):
                        (a, b), (c, e) = edge
                        side = oracle.cross((c - a, e - b), aside)
                        if side != 0:
                            point = on_line(edge, n, 1, aside, FINE)
                            expected = at if side > 0 else (at + 1) % len(polygon)
                            self.assertEqual(tangent_vertex(polygon, point), expected)
                            self.assert_as_defined(polygon, point)

    def test_very_close_to_the_line_beyond_the_end(self):
        for polygon in ALL:
            corners = polygon.vertices()
            for at, edge in enumerate(edges(polygon)):
                for n in (2, 4, 10 ** 30):
                    for aside in ((1, 0), (-1, 0), (0, 1), (0, -1)):
                        (a, b), (c, e) = edge
                        side = oracle.cross((c - a, e - b), aside)
                        if side != 0:
                            point = on_line(edge, n, 1, aside, FINE)
                            vertex = at if side < 0 else (at + 1) % len(polygon)
                            self.assertEqual(reflect_back(polygon, point), oracle.through(point, corners[vertex]))
                            self.assert_as_defined(polygon, point)


class TraceTest(ReflectionTestCase):
    def test_example_of_the_document(self):
        self.assertEqual(trace(SQUARE, (5, 1, 2), 2), [(5, 1, 2), (-1, 3, 2), (1, -3, 2)])

    def test_no_step_and_one_step(self):
        self.assertEqual(trace(SQUARE, (5, 1, 2), 0), [(5, 1, 2)])
        self.assertEqual(trace(SQUARE, (5, 1, 2), 1), [(5, 1, 2), (-1, 3, 2)])
        self.assertEqual(trace(SQUARE, (-2, 0, 1), 0), [(-2, 0, 1)])
        self.assert_undefined(0, trace, SQUARE, (-2, 0, 1), 1)

    def test_200_steps(self):
        for number, polygon in enumerate(ALL):
            for point in oracle.random_points(number, polygon, 4, 1000, (7, 11, 999983)):
                used, points = oracle.path(polygon, point, 200)
                self.assertEqual(len(points), 201)
                self.assertEqual(trace(polygon, point, 200), points)

    def test_far_away(self):
        for number, polygon in enumerate(ALL):
            for point in oracle.random_points(number, polygon, 4, FAR, (7, 11, FINE)):
                self.assertEqual(trace(polygon, point, 50), oracle.path(polygon, point, 50)[1])

    def test_orbits_that_end(self):
        lengths = set()
        for polygon in POLYGONS:
            for point in oracle.points_around(polygon, 6, (1,)):
                used, points = oracle.path(polygon, point, 150)
                if len(used) < 150:
                    lengths.add(len(used))
                    self.assertEqual(trace(polygon, point, len(used)), points)
                    self.assert_undefined(len(used), trace, polygon, point, len(used) + 1)
                    self.assert_undefined(len(used), trace, polygon, point, 200)
        self.assertGreaterEqual(lengths, {0, 1, 2, 3, 4, 5, 10})

    def test_a_returned_list_is_new(self):
        point = (5, 1, 2)
        result = trace(SQUARE, point, 2)
        self.assertIs(type(result), list)
        self.assertEqual({type(item) for item in result}, {tuple})
        result.clear()
        self.assertEqual(trace(SQUARE, point, 2), [(5, 1, 2), (-1, 3, 2), (1, -3, 2)])


class InterfaceTest(unittest.TestCase):
    def test_arguments_by_name(self):
        self.assertEqual(tangent_vertex(point=(5, 1, 2), polygon=SQUARE), 2)
        self.assertEqual(reflect(point=(5, 1, 2), polygon=SQUARE), (-1, 3, 2))
        self.assertEqual(reflect_back(point=(-1, 3, 2), polygon=SQUARE), (5, 1, 2))
        self.assertEqual(trace(steps=1, point=(5, 1, 2), polygon=SQUARE), [(5, 1, 2), (-1, 3, 2)])

    def test_interface_stands_in_its_file(self):
        for function in (tangent_vertex, reflect, reflect_back, trace):
            self.assertEqual(function.__module__, reflections.__name__)

    def test_arguments_stay_as_they_were(self):
        for function in (tangent_vertex, reflect, reflect_back):
            function(TRIANGLE, (1, 1, 1))
        trace(TRIANGLE, (1, 1, 1), 20)
        self.assertEqual(TRIANGLE.vertices(), [(0, 0), (1, 0), (0, 1)])
