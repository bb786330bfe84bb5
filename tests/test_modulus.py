import unittest

from outleap import modulus as module
from outleap.modulus import directions, far_shifts, modulus
from outleap.polygons import Polygon
from tests import oracle
from tests.values import (
    HEXAGON, KITE, MODULUS_4096, MODULUS_4100, MODULUS_4100_TOO, MODULUS_HUGE, POLYGONS, SQUARE, TRIANGLE, rotations)

LARGE = oracle.random_polygons(3, 60, 60)
MANY = oracle.random_polygons(1, 40, 4) + oracle.random_polygons(2, 40, 12) + LARGE + POLYGONS + [MODULUS_HUGE]


class DirectionsTest(unittest.TestCase):
    def test_example_of_the_document(self):
        self.assertEqual(directions(TRIANGLE), [(1, 0), (0, 1), (-1, 1)])

    def test_parallel_edges_give_one_direction(self):
        self.assertEqual(directions(SQUARE), [(1, 0), (0, 1)])
        self.assertEqual(directions(HEXAGON), [(1, 0), (1, 1), (0, 1)])
        self.assertEqual(directions(Polygon([(0, 0), (3, 0), (2, 1), (1, 1)])), [(1, 0), (1, 1), (-1, 1)])

    def test_primitive_vectors(self):
        self.assertEqual(directions(Polygon([(-60, -60), (60, 20), (-40, 60)])), [(3, 2), (1, 6), (-5, 2)])
        self.assertEqual(directions(Polygon([(0, 0), (60, 0), (60, 60), (0, 60)])), [(1, 0), (0, 1)])

    def test_nearly_level_and_nearly_upright_ones(self):
        polygon = Polygon([(-60, -60), (60, -59), (60, 60), (59, 60), (-59, 59)])
        self.assertEqual(directions(polygon), [(1, 0), (120, 1), (118, 1), (1, 119), (0, 1)])

    def test_many_polygons(self):
        for polygon in MANY:
            found = directions(polygon)
            self.assertEqual(found, oracle.directions(polygon))
            for first, second in zip(found, found[1:]):
                self.assertGreater(oracle.cross(first, second), 0)

    def test_some_have_parallel_edges_and_some_have_not(self):
        found = {(len(polygon), len(directions(polygon))) for polygon in MANY}
        self.assertGreaterEqual(found, {(3, 3), (4, 4), (4, 2), (4, 3), (5, 5), (5, 4), (6, 6), (6, 3)})


class FarShiftsTest(unittest.TestCase):
    def test_example_of_the_document(self):
        self.assertEqual(far_shifts(TRIANGLE), [(2, 1, (2, -2)), (0, 1, (2, 0)), (0, 2, (0, 2))])

    def test_square(self):
        self.assertEqual(far_shifts(SQUARE), [(3, 1, (2, -2)), (0, 2, (2, 2))])

    def test_many_polygons(self):
        for polygon in MANY:
            turns = oracle.directions(polygon)
            ends = turns[1:] + [(-turns[0][0], -turns[0][1])]
            expected = [oracle.far_row(polygon.vertices(), start, end) for start, end in zip(turns, ends)]
            self.assertEqual(far_shifts(polygon), expected)

    def test_kinds_of_values(self):
        for row in far_shifts(KITE):
            self.assertIs(type(row), tuple)
            self.assertIs(type(row[2]), tuple)


class ModulusTest(unittest.TestCase):
    def test_examples_of_the_document(self):
        self.assertEqual(modulus(TRIANGLE), 4)
        self.assertEqual(modulus(Polygon([(0, 0), (4, 0), (3, 3), (0, 4)])), 576)

    def test_triangles(self):
        for polygon in oracle.random_polygons(4, 80, 60)[::4]:
            (a, b), (c, d), (e, f) = polygon.vertices()
            self.assertEqual(modulus(polygon), 4 * oracle.cross((c - a, d - b), (e - a, f - b)))

    def test_parallelograms(self):
        for a, b, c, d in ((1, 0, 0, 1), (3, 1, 1, 2), (2, 0, 0, 2), (7, -3, 2, 5), (30, 0, 7, 29), (60, 1, -1, 59)):
            polygon = Polygon([(0, 0), (a, b), (a + c, b + d), (c, d)])
            self.assertEqual(modulus(polygon), 4 * (a * d - b * c))

    def test_bounds_of_other_modules(self):
        self.assertEqual([modulus(polygon) for polygon in MODULUS_4096], [4096, 4096])
        self.assertEqual([modulus(MODULUS_4100), modulus(MODULUS_4100_TOO)], [4100, 4100])

    def test_smallest_such_integer(self):
        for polygon in POLYGONS + oracle.random_polygons(5, 24, 2):
            if modulus(polygon) < 10 ** 5:
                self.assertEqual(modulus(polygon), oracle.modulus_by_search(polygon))

    def test_large_ones(self):
        for polygon in MANY:
            found = modulus(polygon)
            self.assertGreaterEqual(found, 1)
            # All such integers are multiples of the smallest one, so no divisor is common to it and all quotients.
            common = found
            for turn, width, after in oracle.sector_rows(polygon):
                self.assertEqual(found * turn % (width * after), 0)
                common = oracle.gcd(common, found * turn // (width * after))
            self.assertEqual(common, 1)

    def test_larger_than_any_limit(self):
        self.assertEqual(modulus(MODULUS_HUGE), 32536949086770240)


class InterfaceTest(unittest.TestCase):
    def test_any_first_vertex(self):
        for polygon in POLYGONS + LARGE:
            for given in rotations(polygon.vertices()):
                self.assertEqual(directions(Polygon(given)), directions(polygon))
                self.assertEqual(far_shifts(Polygon(given)), far_shifts(polygon))
                self.assertEqual(modulus(Polygon(given)), modulus(polygon))

    def test_argument_by_name(self):
        self.assertEqual(directions(polygon=SQUARE), [(1, 0), (0, 1)])
        self.assertEqual(far_shifts(polygon=SQUARE), far_shifts(SQUARE))
        self.assertEqual(modulus(polygon=SQUARE), 4)

    def test_a_returned_list_is_new(self):
        for function in (directions, far_shifts):
            expected = list(function(KITE))
            result = function(KITE)
            self.assertIs(type(result), list)
            result.clear()
            self.assertEqual(function(KITE), expected)
            self.assertEqual(KITE.vertices(), [(0, 0), (4, 0), (3, 3), (0, 4)])

    def test_interface_stands_in_its_file(self):
        for function in (directions, far_shifts, modulus):
            self.assertEqual(function.__module__, module.__name__)
