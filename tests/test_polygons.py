import copy
import itertools
import unittest

from outleap.errors import InvalidPolygon
from outleap.polygons import Polygon
from tests.oracle import hull
from tests.values import OTHER_VALUES, SQUARE, TRIANGLE, rotations

# Each in the order that vertices() promises.
VALID = [
    [(0, 0), (1, 0), (0, 1)],
    [(-60, -60), (60, 60), (-60, 60)],
    [(0, 0), (1, 0), (1, 1), (0, 1)],
    [(-60, -60), (60, -60), (60, 60), (-60, 60)],
    [(0, 0), (4, 0), (3, 3), (0, 4)],
    [(-2, 0), (-1, -2), (1, -2), (2, 0), (0, 2)],
    [(-60, 0), (-1, -60), (60, -59), (59, 60), (-59, 60)],
    [(0, 0), (1, 0), (2, 1), (2, 2), (1, 2), (0, 1)],
    [(-60, -1), (0, -60), (60, -60), (60, 1), (0, 60), (-60, 60)],
]

PENTAGON = [(-2, 0), (-1, -2), (1, -2), (2, 0), (0, 2)]
# Turns left at every vertex and winds around twice.
TWICE_AROUND = [(60, 0), (-21, 56), (-39, -46), (59, -10), (-10, 59), (-46, -39)]


def turn(a, b, c):
    return (b[0] - a[0]) * (c[1] - b[1]) - (b[1] - a[1]) * (c[0] - b[0])


def turns(vertices):
    return [turn(*(list(vertices) * 2)[at:at + 3]) for at in range(len(vertices))]


class PolygonTestCase(unittest.TestCase):
    def assert_refused(self, reason, vertices):
        before = copy.deepcopy(vertices)
        with self.assertRaises(InvalidPolygon) as caught:
            Polygon(vertices)
        self.assertEqual(caught.exception.reason, reason)
        self.assertEqual(caught.exception.args, (reason,))
        self.assertEqual(vertices, before)


class ValidPolygonTest(unittest.TestCase):
    def test_every_start_as_list_and_as_tuple(self):
        for expected in VALID:
            for given in rotations(expected):
                for vertices in (given, tuple(given)):
                    with self.subTest(vertices):
                        self.assertEqual(Polygon(vertices).vertices(), expected)
                        self.assertEqual(len(Polygon(vertices)), len(expected))

    def test_the_smallest_vertex_has_the_smallest_x_and_then_the_smallest_y(self):
        polygon = Polygon([(5, -9), (7, 0), (-3, 4), (-3, 1)])
        self.assertEqual(polygon.vertices(), [(-3, 1), (5, -9), (7, 0), (-3, 4)])

    def test_vertices_returns_a_plain_list_of_plain_tuples(self):
        for vertices in VALID:
            result = Polygon(tuple(vertices)).vertices()
            self.assertIs(type(result), list)
            self.assertEqual({type(vertex) for vertex in result}, {tuple})

    def test_argument_by_name(self):
        self.assertEqual(Polygon(vertices=[(0, 0), (1, 0), (0, 1)]), TRIANGLE)

    def test_examples_of_the_document(self):
        self.assertIs(Polygon([(1, 0), (0, 1), (0, 0)]) == TRIANGLE, True)
        self.assertEqual(Polygon([(1, 0), (0, 1), (0, 0)]).vertices(), [(0, 0), (1, 0), (0, 1)])

    def test_interface_stands_in_the_class_itself(self):
        for name in ("__init__", "vertices", "__eq__", "__len__"):
            self.assertIn(name, vars(Polygon))
        self.assertEqual(Polygon.__module__, "outleap.polygons")


class VerticesReasonTest(PolygonTestCase):
    def test_any_other_value(self):
        for value in OTHER_VALUES:
            with self.subTest(repr(value)[:40]):
                self.assert_refused("vertices", value)

    def test_a_dict_and_a_string_of_a_fitting_length(self):
        self.assert_refused("vertices", {(0, 0): 1, (1, 0): 2, (0, 1): 3})
        self.assert_refused("vertices", {0: (0, 0), 1: (1, 0), 2: (0, 1)})
        self.assert_refused("vertices", "abc")

    def test_number_of_vertices(self):
        heptagon = [(0, 0), (1, 0), (3, 1), (4, 3), (3, 4), (1, 4), (0, 3)]
        self.assertEqual(hull(heptagon), heptagon)
        for vertices in ([], [(0, 0)], [(0, 0), (1, 0)], heptagon, VALID[0] * 100):
            self.assert_refused("vertices", vertices)
            self.assert_refused("vertices", tuple(vertices))
        self.assertEqual(len(Polygon(heptagon[:6])), 6)

    def test_a_single_wrong_vertex(self):
        wrong = OTHER_VALUES + [
            [0, 1], (0,), (0, 1, 1), (), "01", {0: 0, 1: 1}, (False, 1), (0, True), (False, True),
            ("0", 1), (0, "1"), (None, 1), (0, None), ((0,), 1), (0, [1]), (0, {}),
            (0, 61), (0, -61), (61, 1), (-61, 1), (0, 10 ** 999), (-(10 ** 999), 1),
        ]
        for vertex in wrong:
            for given in rotations([(0, 0), (1, 0), vertex]):
                with self.subTest(repr(vertex)[:40]):
                    self.assert_refused("vertices", given)
                    self.assert_refused("vertices", tuple(given))

    def test_bounds(self):
        for bound in (60, -60):
            beyond = bound + bound // 60
            self.assertEqual(len(Polygon([(0, 0), (bound, 0), (0, bound)])), 3)
            self.assert_refused("vertices", [(0, 0), (beyond, 0), (0, bound)])
            self.assert_refused("vertices", [(0, 0), (bound, 0), (0, beyond)])

    def test_vertices_come_before_order(self):
        self.assert_refused("vertices", [(0, 0), (0, 61), (1, 0)])
        self.assert_refused("vertices", [(0, 0), (0, 0), [1, 0]])
        self.assert_refused("vertices", [(0, 0), (0, 0)])
        self.assert_refused("vertices", [(0, 0), (0, 1), (1, 0), (True, 0)])
        self.assert_refused("vertices", [(0, 0)] * 7)


class OrderReasonTest(PolygonTestCase):
    def assert_every_start_refused(self, vertices):
        for given in rotations(vertices):
            with self.subTest(given):
                self.assert_refused("order", given)
                self.assert_refused("order", tuple(given))

    def test_example_of_the_document(self):
        self.assert_refused("order", [(0, 0), (0, 1), (1, 0)])

    def test_clockwise(self):
        for vertices in VALID:
            self.assert_every_start_refused(vertices[::-1])

    def test_repeated_vertex(self):
        self.assert_every_start_refused([(3, 3)] * 3)
        for vertices in VALID:
            for at in range(len(vertices)):
                for to in range(len(vertices) + 1):
                    repeated = vertices[:to] + [vertices[at]] + vertices[to:]
                    if len(repeated) <= 6:
                        self.assert_every_start_refused(repeated)
        self.assert_every_start_refused([(0, 0), (1, 0), (0, 1)] * 2)

    def test_vertex_on_an_edge_or_on_its_line(self):
        self.assert_every_start_refused([(0, 0), (1, 0), (2, 0)])
        self.assert_every_start_refused([(0, 0), (1, 0), (2, 0), (0, 2)])
        self.assert_every_start_refused([(0, 0), (2, 0), (1, 1), (0, 2)])
        self.assert_every_start_refused([(0, 0), (2, 0), (4, 0), (0, 2)])
        self.assert_every_start_refused([(0, 0), (2, 0), (1, 0), (0, 2)])
        self.assert_every_start_refused([(-60, -60), (0, 0), (60, 60), (-60, 60)])

    def test_concave(self):
        self.assert_every_start_refused([(0, 0), (4, 0), (1, 1), (0, 4)])
        self.assert_every_start_refused([(0, 0), (4, 0), (4, 4), (2, 1), (0, 4)])

    def test_self_crossing(self):
        self.assert_every_start_refused([(0, 0), (1, 1), (1, 0), (0, 1)])
        self.assert_every_start_refused([(0, 0), (1, 0), (0, 1), (1, 1)])

    def test_left_turns_that_wind_around_twice(self):
        pentagram = [PENTAGON[at * 2 % 5] for at in range(5)]
        for vertices in (pentagram, TWICE_AROUND):
            self.assertGreater(min(turns(vertices)), 0)
            self.assertEqual(len(set(vertices)), len(vertices))
            self.assert_every_start_refused(vertices)

    def test_every_order_of_a_convex_polygon(self):
        for expected in VALID:
            for given in itertools.permutations(expected):
                if list(given) in rotations(expected):
                    self.assertEqual(Polygon(given).vertices(), expected)
                else:
                    self.assert_refused("order", given)

    def test_all_triangles_and_quadrilaterals_on_a_small_grid(self):
        grid = list(itertools.product(range(-1, 2), repeat=2))
        for count in (3, 4):
            for given in itertools.product(grid, repeat=count):
                corners = hull(given)
                if list(given) in rotations(corners):
                    self.assertEqual(Polygon(given).vertices(), corners)
                else:
                    self.assert_refused("order", given)


class EqualityTest(unittest.TestCase):
    def test_same_polygon_from_another_start(self):
        for vertices in VALID:
            for given in rotations(vertices):
                self.assertIs(Polygon(given) == Polygon(tuple(vertices)), True)
                self.assertIs(Polygon(given) != Polygon(tuple(vertices)), False)

    def test_other_polygons(self):
        for first, second in itertools.permutations(VALID, 2):
            self.assertIs(Polygon(first) == Polygon(second), False)
            self.assertIs(Polygon(first) != Polygon(second), True)
        moved = Polygon([(0, 0), (1, 0), (0, 2)])
        self.assertIs(TRIANGLE == moved, False)

    def test_values_that_are_no_polygon(self):
        others = OTHER_VALUES + [TRIANGLE.vertices(), tuple(TRIANGLE.vertices()), 3]
        for value in others:
            self.assertIs(TRIANGLE == value, False)
            self.assertIs(value == TRIANGLE, False)
            self.assertIs(TRIANGLE != value, True)


class CopyTest(unittest.TestCase):
    def test_the_argument_stays_as_it_was(self):
        given = [(1, 0), (0, 1), (0, 0)]
        Polygon(given)
        self.assertEqual(given, [(1, 0), (0, 1), (0, 0)])

    def test_changing_the_argument_has_no_effect(self):
        for start in range(3):
            given = rotations([(0, 0), (1, 0), (0, 1)])[start]
            polygon = Polygon(given)
            given[0] = (7, 7)
            given.append((8, 8))
            self.assertEqual(polygon.vertices(), [(0, 0), (1, 0), (0, 1)])
            self.assertEqual(polygon, TRIANGLE)
            self.assertEqual(len(polygon), 3)

    def test_changing_a_returned_list_has_no_effect(self):
        polygon = Polygon([(0, 0), (1, 0), (1, 1), (0, 1)])
        result = polygon.vertices()
        result[0] = (7, 7)
        result.pop()
        self.assertEqual(polygon.vertices(), [(0, 0), (1, 0), (1, 1), (0, 1)])
        self.assertEqual(polygon, SQUARE)
        self.assertEqual(len(polygon), 4)
        self.assertIsNot(polygon.vertices(), polygon.vertices())

    def test_attributes_cannot_be_added_or_replaced(self):
        polygon = Polygon([(0, 0), (1, 0), (0, 1)])
        for name in ("vertices", "colour"):
            with self.assertRaises(AttributeError):
                setattr(polygon, name, [(7, 7)])
        self.assertEqual(polygon, TRIANGLE)
