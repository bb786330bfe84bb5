import random
import unittest

from outleap import orbits
from outleap.errors import InvalidCount, ModulusTooLarge, Undefined
from outleap.orbits import dead_ends, period_of, point_after, steps_between
from outleap.reflections import reflect, reflect_back
from tests import oracle
from tests.nearby import NEAR
from tests.values import (
    FAR, FINE, KITE, MODULUS_4096, MODULUS_4100, MODULUS_4100_TOO, MODULUS_HUGE, NO_INTEGERS, POLYGONS, SQUARE,
    TRIANGLE)


class OrbitTestCase(unittest.TestCase):
    def assert_undefined(self, steps, polygon, point, wanted):
        with self.assertRaises(Undefined) as caught:
            point_after(polygon, point, wanted)
        self.assertEqual(caught.exception.steps, steps)


class NearbyTest(unittest.TestCase):
    def test_orbits_of_all_kinds_are_tested(self):
        found = {(closed, len(used) % 2) for polygon, point, closed, before, used, points in NEAR}
        self.assertEqual(found, {(True, 0), (True, 1), (False, 0), (False, 1)})
        ending = [row for row in NEAR if not row[2]]
        self.assertTrue(any(row[3] == 0 for row in ending))
        self.assertTrue(any(row[3] == len(row[4]) for row in ending))
        self.assertTrue(any(0 < row[3] < len(row[4]) for row in ending))


class PointAfterTest(OrbitTestCase):
    def test_examples_of_the_document(self):
        self.assertEqual(point_after(SQUARE, (5, 1, 2), 3), (3, 3, 2))
        self.assertEqual(point_after(SQUARE, (5, 1, 2), -1), (-1, -1, 2))
        self.assert_undefined(0, SQUARE, (2, 1, 1), 1)

    def test_closed_orbits(self):
        source = random.Random(1)
        for polygon, point, closed, before, used, points in NEAR:
            if closed:
                size = len(points)
                given = {0, 1, 2, -1, -2, size - 1, size, size + 1, -size, 3 * size + 2, FAR, -FAR}
                given |= {source.randrange(-FAR, FAR) for at in range(3)} | {source.randrange(size)}
                for steps in given:
                    self.assertEqual(point_after(polygon, point, steps), points[steps % size], (point, steps))

    def test_every_step_of_some_closed_orbits(self):
        for polygon, point, closed, before, used, points in NEAR[::97]:
            if closed and len(points) < 200:
                for steps in range(-len(points), 2 * len(points) + 1):
                    self.assertEqual(point_after(polygon, point, steps), points[steps % len(points)])

    def test_orbits_that_end(self):
        for polygon, point, closed, before, used, points in NEAR:
            if not closed:
                after = len(used) - before
                for steps in {0, 1, 2, -1, -2, after, after - 1, after // 2, -before, 1 - before, -before // 2}:
                    if -before <= steps <= after:
                        self.assertEqual(point_after(polygon, point, steps), points[before + steps], (point, steps))
                for steps in (after + 1, after + 2, 2 * after + 1, FAR):
                    self.assert_undefined(after, polygon, point, steps)
                for steps in (before + 1, before + 2, 2 * before + 1, FAR):
                    self.assert_undefined(before, polygon, point, -steps)

    def test_no_steps(self):
        for point in ((5, 1, 2), (2, 1, 1), (-2, 0, 1), (FAR, FAR, 1), (-FAR, 1, 1)):
            self.assertEqual(point_after(SQUARE, point, 0), point)

    def test_far_away_and_many_steps(self):
        source = random.Random(2)
        for number, polygon in enumerate(POLYGONS + MODULUS_4096):
            for point in oracle.random_points(number, polygon, 6, FAR // 1000, (3, 7, 999983)):
                if period_of(polygon, point) is not None:
                    first, second = source.randrange(-FAR // 2, FAR // 2), source.randrange(-FAR // 2, FAR // 2)
                    middle = point_after(polygon, point, first)
                    self.assertEqual(point_after(polygon, middle, second), point_after(polygon, point, first + second))
                    self.assertEqual(point_after(polygon, middle, -first), point)
                    self.assertEqual(point_after(polygon, point, first + 1), reflect(polygon, middle))
                    self.assertEqual(point_after(polygon, point, first - 1), reflect_back(polygon, middle))

    def test_against_single_reflections_far_away(self):
        for number, polygon in enumerate(POLYGONS):
            for point in oracle.random_points(number, polygon, 3, FAR, (3, 7, 999983)):
                used, points = oracle.path(polygon, point, 40)
                self.assertEqual(points, [point_after(polygon, point, steps) for steps in range(len(points))])
                used, points = oracle.path(polygon, point, 40, -1)
                self.assertEqual(points, [point_after(polygon, point, -steps) for steps in range(len(points))])

    def test_thousands_of_single_reflections(self):
        for number, polygon in enumerate(POLYGONS):
            for point in oracle.random_points(number, polygon, 2, 150, (3, 7)):
                for way in (1, -1):
                    used, points = oracle.path(polygon, point, 3000, way)
                    for steps in range(0, len(points), 131):
                        self.assertEqual(point_after(polygon, point, way * steps), points[steps])

    def test_the_furthest_points(self):
        for x, y in ((FAR, FAR), (-FAR, FAR), (FAR, -FAR), (-FAR, -FAR)):
            for polygon in POLYGONS:
                for steps in (1, 2, -1, -2):
                    used, points = oracle.path(polygon, (x, y, 1), abs(steps), 1 if steps > 0 else -1)
                    if len(used) == abs(steps):
                        self.assertEqual(point_after(polygon, (x, y, 1), steps), points[-1])

    def test_returned_points_may_exceed_the_bounds(self):
        self.assertEqual(point_after(SQUARE, (-FAR, -FAR, 1), 1), (FAR + 2, FAR, 1))

    def test_far_orbits_that_end(self):
        for polygon in POLYGONS:
            corners = polygon.vertices()
            (a, b), (c, d) = corners[0], corners[1]
            # On the line of an edge before its start the forward orbit ends at once, beyond its end the backward one.
            start = (a - 10 ** 30 * (c - a), b - 10 ** 30 * (d - b), 1)
            backward, forward = dead_ends(polygon, start)
            self.assertEqual(forward, 0)
            first = point_after(polygon, start, -backward)
            self.assertIsNone(oracle.tangent(corners, first, -1))
            self.assert_undefined(0, polygon, start, 1)
            self.assert_undefined(backward, polygon, start, -FAR)
            self.assert_undefined(backward, polygon, start, -backward - 1)
            self.assert_undefined(backward, polygon, first, backward + 1)
            self.assertEqual(point_after(polygon, first, backward), start)
            middle = point_after(polygon, start, -(backward // 3))
            self.assertEqual(dead_ends(polygon, middle), (backward - backward // 3, backward // 3))
            self.assert_undefined(backward // 3, polygon, middle, backward // 3 + 1)

    def test_counts_that_are_none(self):
        for value in NO_INTEGERS + [FAR + 1, -FAR - 1, 10 ** 999, -(10 ** 999)]:
            for point in ((5, 1, 2), (2, 1, 1)):
                with self.assertRaises(InvalidCount) as caught:
                    point_after(SQUARE, point, value)
                self.assertIs(caught.exception.value, value)

    def test_largest_counts(self):
        self.assertEqual(point_after(SQUARE, (5, 1, 2), FAR), (5, 1, 2))
        self.assertEqual(point_after(SQUARE, (5, 1, 2), -FAR), (5, 1, 2))


class ModulusTest(unittest.TestCase):
    def test_4096_is_small_enough(self):
        for polygon in MODULUS_4096:
            point = (1001, 1, 7)
            self.assertEqual(point_after(polygon, point, 2), oracle.path(polygon, point, 2)[1][2])
            self.assertEqual(steps_between(polygon, point, point_after(polygon, point, 2)), 2)
            self.assertEqual(period_of(polygon, point), len(oracle.whole(polygon, point)[2]))
            self.assertEqual(dead_ends(polygon, point), (None, None))

    def test_too_large(self):
        for polygon, expected in (
                (MODULUS_4100, 4100), (MODULUS_4100_TOO, 4100), (MODULUS_HUGE, 32536949086770240)):
            point = (1001, 1, 7)
            calls = [
                lambda: point_after(polygon, point, 0), lambda: point_after(polygon, point, 5),
                lambda: period_of(polygon, point), lambda: dead_ends(polygon, point),
                lambda: steps_between(polygon, point, point), lambda: steps_between(polygon, point, (1001, 1, 6)),
            ]
            for call in calls:
                with self.assertRaises(ModulusTooLarge) as caught:
                    call()
                self.assertEqual(caught.exception.modulus, expected)


class PeriodTest(OrbitTestCase):
    def test_examples_of_the_document(self):
        self.assertEqual(period_of(SQUARE, (5, 1, 2)), 8)
        self.assertEqual(period_of(SQUARE, (2 * 10 ** 30 + 1, 1, 2)), 4 * 10 ** 30)

    def test_orbits_near_the_polygons(self):
        for polygon, point, closed, before, used, points in NEAR:
            self.assertEqual(period_of(polygon, point), len(points) if closed else None, point)

    def test_odd_periods(self):
        self.assertEqual(period_of(TRIANGLE, (1, 1, 1)), 3)
        self.assertEqual(period_of(TRIANGLE, (5, 4, 4)), 6)
        odd = {len(points) for polygon, point, closed, before, used, points in NEAR if closed and len(points) % 2}
        self.assertGreater(len(odd), 3)

    def test_all_points_of_an_orbit_have_its_period(self):
        for point in oracle.whole(KITE, (31, 7, 3))[3][::7]:
            self.assertEqual(period_of(KITE, point), period_of(KITE, (31, 7, 3)))

    def test_orbits_further_away(self):
        for number, polygon in enumerate(POLYGONS):
            for point in oracle.random_points(number, polygon, 4, 30, (1, 2, 3, FINE)):
                closed, before, used, points = oracle.whole(polygon, point, 10 ** 5)
                self.assertEqual(period_of(polygon, point), len(points) if closed else None)

    def test_far_away(self):
        longest = 0
        for number, polygon in enumerate(POLYGONS + MODULUS_4096):
            for point in oracle.random_points(number, polygon, 4, FAR // 10 ** 5, (1, 7, 999983)):
                period = period_of(polygon, point)
                if period is None:
                    self.assertNotEqual(dead_ends(polygon, point), (None, None))
                else:
                    longest = max(longest, period)
                    self.assertEqual(point_after(polygon, point, period), point)
                    self.assertNotEqual(point_after(polygon, point, period - 1), point)
                    for part in (2, 3, 5, 7):
                        self.assertNotEqual(point_after(polygon, point, period // part), point)
        self.assertGreater(longest, 10 ** 36)

    def test_as_far_away_as_can_be(self):
        for x, y in ((FAR, FAR), (-FAR, FAR), (FAR, -FAR), (-FAR, -FAR)):
            for polygon in POLYGONS:
                period = period_of(polygon, (x, y, 1))
                if period is not None:
                    self.assertGreater(period, 10 ** 38)
                    self.assertEqual(steps_between(polygon, (x, y, 1), (x, y, 1)), 0)


class DeadEndsTest(OrbitTestCase):
    def test_examples_of_the_document(self):
        self.assertEqual(dead_ends(SQUARE, (2, 1, 1)), (1, 0))
        self.assertEqual(dead_ends(SQUARE, (5, 1, 2)), (None, None))

    def test_orbits_near_the_polygons(self):
        for polygon, point, closed, before, used, points in NEAR:
            expected = (None, None) if closed else (before, len(used) - before)
            self.assertEqual(dead_ends(polygon, point), expected, point)

    def test_every_point_of_some_orbits(self):
        for polygon, point, closed, before, used, points in NEAR[::41]:
            if not closed:
                for at in {0, 1, 2, len(used) // 2, len(used) - 1, len(used)} & set(range(len(points))):
                    self.assertEqual(dead_ends(polygon, points[at]), (at, len(used) - at))

    def test_a_single_point(self):
        alone = [(polygon, point) for polygon, point, closed, before, used, points in NEAR if len(used) == 0]
        self.assertGreater(len(alone), 0)
        for polygon, point in alone:
            self.assertEqual(dead_ends(polygon, point), (0, 0))

    def test_far_away(self):
        backward, forward = dead_ends(SQUARE, (FAR, 1, 1))
        self.assertGreater(min(backward, forward) + max(backward, forward), 10 ** 39)
        self.assertIs(type(dead_ends(SQUARE, (FAR, 1, 1))), tuple)


class StepsBetweenTest(OrbitTestCase):
    def test_examples_of_the_document(self):
        self.assertEqual(steps_between(SQUARE, (5, 1, 2), (1, -3, 2)), 2)
        self.assertEqual(steps_between(SQUARE, (2, 1, 1), (0, -1, 1)), -1)

    def test_points_of_one_orbit(self):
        source = random.Random(3)
        for polygon, point, closed, before, used, points in NEAR[::3]:
            for at in {0, len(points) - 1, source.randrange(len(points)), source.randrange(len(points))}:
                expected = at if closed else at - before
                self.assertEqual(steps_between(polygon, point, points[at]), expected, (point, points[at]))

    def test_closed_orbits_count_forward(self):
        closed, before, used, points = oracle.whole(TRIANGLE, (1, 1, 1))
        self.assertEqual([steps_between(TRIANGLE, (1, 1, 1), point) for point in points], [0, 1, 2])
        self.assertEqual(steps_between(TRIANGLE, points[1], points[0]), 2)

    def test_equal_points(self):
        for polygon, point, closed, before, used, points in NEAR[::5]:
            self.assertEqual(steps_between(polygon, point, point), 0)
        self.assertEqual(steps_between(SQUARE, (FAR, FAR, 1), (FAR, FAR, 1)), 0)

    def test_points_of_other_orbits(self):
        for polygon in POLYGONS:
            around = oracle.points_around(polygon, 7, (1, 2), 2)
            for first in around[::17]:
                points = set(oracle.whole(polygon, first)[3])
                for second in around[::5]:
                    if second not in points:
                        self.assertIsNone(steps_between(polygon, first, second))

    def test_another_denominator(self):
        self.assertIsNone(steps_between(SQUARE, (5, 1, 2), (5, 1, 3)))
        # The numerators alone are those of a point of the orbit.
        self.assertIsNone(steps_between(SQUARE, (5, 1, 2), (-1, 3, 4)))
        self.assertIsNone(steps_between(SQUARE, (-5, -1, 2), (-5, -1, 1)))

    def test_far_away(self):
        source = random.Random(4)
        for number, polygon in enumerate(POLYGONS + MODULUS_4096):
            for point in oracle.random_points(number, polygon, 4, FAR // 1000, (7, 999983)):
                period = period_of(polygon, point)
                if period is not None:
                    steps = source.randrange(min(period, FAR))
                    second = point_after(polygon, point, steps)
                    self.assertEqual(steps_between(polygon, point, second), steps)
                    self.assertEqual(steps_between(polygon, second, point), period - steps)
                    x, y, d = second
                    self.assertIsNone(steps_between(polygon, point, oracle.lowest(x + 1, y, d)))

    def test_far_orbits_that_end(self):
        point = (10 ** 35, 1, 1)
        backward, forward = dead_ends(SQUARE, point)
        for steps in (-backward, -backward // 2, 0, forward // 2, forward):
            self.assertEqual(steps_between(SQUARE, point, point_after(SQUARE, point, steps)), steps)


class InterfaceTest(unittest.TestCase):
    def test_arguments_by_name(self):
        self.assertEqual(point_after(steps=3, point=(5, 1, 2), polygon=SQUARE), (3, 3, 2))
        self.assertEqual(period_of(point=(5, 1, 2), polygon=SQUARE), 8)
        self.assertEqual(dead_ends(point=(2, 1, 1), polygon=SQUARE), (1, 0))
        self.assertEqual(steps_between(second=(1, -3, 2), first=(5, 1, 2), polygon=SQUARE), 2)

    def test_interface_stands_in_its_file(self):
        for function in (point_after, period_of, dead_ends, steps_between):
            self.assertEqual(function.__module__, orbits.__name__)

    def test_arguments_stay_as_they_were(self):
        for point in ((1, 1, 1), (5, 1, 2)):
            point_after(TRIANGLE, point, 1)
            period_of(TRIANGLE, point)
            dead_ends(TRIANGLE, point)
            steps_between(TRIANGLE, point, (1, 1, 1))
        self.assertEqual(TRIANGLE.vertices(), [(0, 0), (1, 0), (0, 1)])
