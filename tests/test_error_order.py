"""Which error is raised where several apply."""

import unittest
from types import SimpleNamespace

from outleap import (
    cells, errors, orbit_stats, orbits, reflections, regions, ring_check, rings, segments, words)
from tests.test_points import NO_POINTS
from tests.values import FAR, MODULUS_4100, MODULUS_HUGE, SQUARE

WRONG = "wrong"
INSIDE = (1, 1, 2)
ON_BOUNDARY = (0, 1, 2)
OUTSIDE = (2001, 1, 7)
# The forward orbit ends at once around the square and around the polygon with the modulus 4100.
ENDING = (-2000, 0, 1)

# Functions whose point is the last argument, with the point before the other ones.
POINT_LAST = SimpleNamespace(
    ring_contains=lambda polygon, point, index: rings.ring_contains(polygon, index, point),
    region_contains=lambda polygon, point, index: regions.region_contains(polygon, index, point))

# For each function with one point: the module, its name, valid other arguments, and invalid ones.
ONE_POINT = [
    (reflections, "tangent_vertex", (), ()),
    (reflections, "reflect", (), ()),
    (reflections, "reflect_back", (), ()),
    (reflections, "trace", (3,), (3,)),
    (segments, "segments_of", (3,), (WRONG,)),
    (orbits, "point_after", (3,), (WRONG,)),
    (orbits, "period_of", (), ()),
    (orbits, "dead_ends", (), ()),
    (orbit_stats, "vertex_counts", (3,), (WRONG,)),
    (orbit_stats, "furthest", (1, 2), (WRONG, None)),
    (cells, "cell_bounds", (), ()),
    (cells, "cell_vertices", (), ()),
    (cells, "cell_area", (), ()),
    (cells, "cell_period", (), ()),
    (cells, "cell_center", (), ()),
    (words, "itinerary", (3,), (3,)),
    (rings, "ring_index", (), ()),
    (POINT_LAST, "ring_contains", (1,), (WRONG,)),
    (POINT_LAST, "region_contains", (1,), (0,)),
    (ring_check, "check_ring", ([],), (WRONG,)),
]
TWO_POINTS = [
    (orbits, "steps_between", (), ()),
    (orbit_stats, "meeting_time", (1, 2), (WRONG, 1001)),
    (cells, "same_cell", (), ()),
]
# Functions that check a count, as (module, name, wrong other arguments, the value that is reported).
COUNTS = [
    (segments, "segments_of", (201,), 201),
    (orbits, "point_after", (FAR + 1,), FAR + 1),
    (orbits, "point_after", (True,), True),
    (orbit_stats, "vertex_counts", (-1,), -1),
    (orbit_stats, "vertex_counts", (False,), False),
    (orbit_stats, "meeting_time", (OUTSIDE, 1001, WRONG), 1001),
    (orbit_stats, "meeting_time", (OUTSIDE, WRONG, 1001), WRONG),
    (orbit_stats, "meeting_time", (OUTSIDE, 1000, -1001), -1001),
]
# Functions that check the modulus, with valid other arguments.
MODULI = [
    (orbits, "point_after", (0,)),
    (orbits, "point_after", (1,)),
    (orbits, "point_after", (-1,)),
    (orbits, "period_of", ()),
    (orbits, "dead_ends", ()),
    (orbits, "steps_between", (ENDING,)),
    (orbit_stats, "vertex_counts", (0,)),
    (orbit_stats, "vertex_counts", (1,)),
    (orbit_stats, "furthest", (0, 0)),
    (orbit_stats, "furthest", (WRONG, None)),
    (orbit_stats, "meeting_time", (ENDING, 0, 0)),
    (cells, "cell_bounds", ()),
    (cells, "cell_vertices", ()),
    (cells, "cell_area", ()),
    (cells, "cell_period", ()),
    (cells, "cell_center", ()),
    (cells, "same_cell", (ENDING,)),
    (rings, "ring_index", ()),
    (POINT_LAST, "ring_contains", (1,)),
    (POINT_LAST, "ring_contains", (WRONG,)),
    (POINT_LAST, "region_contains", (1,)),
    (POINT_LAST, "region_contains", (0,)),
]


class ErrorOrderTest(unittest.TestCase):
    def assert_raises(self, name, value, module, function, polygon, *given):
        with self.subTest(f"{function} {given!r:.80}"):
            with self.assertRaises(getattr(errors, name)) as caught:
                getattr(module, function)(polygon, *given)
            self.assertIs(type(caught.exception), getattr(errors, name))
            (found,) = vars(caught.exception).values()
            self.assertEqual(found, value)
            self.assertIs(type(found), type(value))

    def test_an_invalid_point_comes_first(self):
        for module, function, valid, wrong in ONE_POINT:
            for polygon in (SQUARE, MODULUS_HUGE):
                for value in NO_POINTS:
                    self.assert_raises("InvalidPoint", value, module, function, polygon, value, *valid)
                    self.assert_raises("InvalidPoint", value, module, function, polygon, value, *wrong)

    def test_a_point_that_is_not_outside_comes_next(self):
        for module, function, valid, wrong in ONE_POINT:
            for point in (INSIDE, ON_BOUNDARY, (0, 0, 1)):
                for polygon in (SQUARE, MODULUS_4100):
                    self.assert_raises("NotOutside", point, module, function, polygon, point, *valid)
                    self.assert_raises("NotOutside", point, module, function, polygon, point, *wrong)

    def test_the_first_point_comes_before_the_second(self):
        for module, function, valid, wrong in TWO_POINTS:
            for rest in (valid, wrong):
                for polygon in (SQUARE, MODULUS_4100):
                    for second in (WRONG, INSIDE, OUTSIDE):
                        for first in ((2, 0, 2), WRONG, None, (1, 1), True):
                            self.assert_raises("InvalidPoint", first, module, function, polygon, first, second, *rest)
                        self.assert_raises(
                            "NotOutside", ON_BOUNDARY, module, function, polygon, ON_BOUNDARY, second, *rest)

    def test_the_second_point_comes_next(self):
        for module, function, valid, wrong in TWO_POINTS:
            for rest in (valid, wrong):
                for polygon in (SQUARE, MODULUS_4100):
                    for first in (OUTSIDE, ENDING):
                        for second in NO_POINTS:
                            self.assert_raises(
                                "InvalidPoint", second, module, function, polygon, first, second, *rest)
                        self.assert_raises("NotOutside", INSIDE, module, function, polygon, first, INSIDE, *rest)

    def test_a_count_comes_before_the_modulus_and_the_end(self):
        for module, function, given, value in COUNTS:
            for polygon in (SQUARE, MODULUS_4100, MODULUS_HUGE):
                for point in (OUTSIDE, ENDING):
                    self.assert_raises("InvalidCount", value, module, function, polygon, point, *given)

    def test_the_modulus_comes_before_the_end(self):
        for module, function, given in MODULI:
            for point in (OUTSIDE, ENDING):
                self.assert_raises("ModulusTooLarge", 4100, module, function, MODULUS_4100, point, *given)

    def test_coefficients_come_last(self):
        for point in (OUTSIDE, ENDING):
            self.assert_raises("InvalidCoefficient", WRONG, orbit_stats, "furthest", SQUARE, point, WRONG, None)
            self.assert_raises("InvalidCoefficient", None, orbit_stats, "furthest", SQUARE, point, 1, None)

    def test_the_modulus_comes_before_the_index_of_a_ring(self):
        for module, function in (
                (rings, "ring_chain"), (rings, "ring_extent"), (regions, "region_area"), (regions, "cells_in_region")):
            for index in (1, 0, WRONG, True, 10 ** 60):
                self.assert_raises("ModulusTooLarge", 4100, module, function, MODULUS_4100, index)
            for index in (0, WRONG, True, -(10 ** 60)):
                self.assert_raises("InvalidRing", index, module, function, SQUARE, index)

    def test_the_index_of_a_ring_comes_last(self):
        for function in ("ring_contains", "region_contains"):
            for point in (OUTSIDE, ENDING):
                for index in (0, WRONG, False):
                    self.assert_raises("InvalidRing", index, POINT_LAST, function, SQUARE, point, index)

    def test_not_periodic_comes_last(self):
        for function in ("cell_bounds", "cell_vertices", "cell_area", "cell_period", "cell_center"):
            self.assert_raises("NotPeriodic", ENDING, cells, function, SQUARE, ENDING)
        for other in (OUTSIDE, ENDING, (2000, 0, 1)):
            self.assert_raises("NotPeriodic", ENDING, cells, "same_cell", SQUARE, ENDING, other)

    def test_the_end_comes_last(self):
        self.assert_raises("Undefined", 0, orbits, "point_after", SQUARE, ENDING, 1)
        self.assert_raises("Undefined", 0, orbit_stats, "vertex_counts", SQUARE, ENDING, 1)
        self.assert_raises("Undefined", 0, words, "itinerary", SQUARE, ENDING, 1)
        self.assert_raises("Undefined", 0, words, "itinerary", MODULUS_4100, ENDING, 1)
        for function, *given in (("tangent_vertex",), ("reflect",), ("trace", 3)):
            self.assert_raises("Undefined", 0, reflections, function, SQUARE, ENDING, *given)
            self.assert_raises("Undefined", 0, reflections, function, MODULUS_4100, ENDING, *given)
        self.assert_raises("Undefined", 0, reflections, "reflect_back", SQUARE, (2000, 0, 1))
