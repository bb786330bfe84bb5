import math
import random
import unittest
from fractions import Fraction

from outleap import orbit_stats
from outleap.errors import InvalidCoefficient, InvalidCount, ModulusTooLarge, Undefined
from outleap.orbit_stats import furthest, greatest_point, meeting_time, vertex_counts
from outleap.orbits import dead_ends, period_of, point_after, steps_between
from tests import oracle
from tests.nearby import NEAR
from tests.values import (
    FAR, KITE, MODULUS_4096, MODULUS_4100, NO_INTEGERS, PENTAGON, POLYGONS, SQUARE, TRIANGLE)


def counts_of(polygon, used):
    return [used.count(at) for at in range(len(polygon))]


class VertexCountsTest(unittest.TestCase):
    def assert_undefined(self, steps, polygon, point, wanted):
        with self.assertRaises(Undefined) as caught:
            vertex_counts(polygon, point, wanted)
        self.assertEqual(caught.exception.steps, steps)

    def test_example_of_the_document(self):
        self.assertEqual(vertex_counts(SQUARE, (5, 1, 2), 3), [1, 1, 1, 0])

    def test_within_a_period(self):
        for polygon, point, closed, before, used, points in NEAR:
            if closed:
                for steps in {0, 1, 2, 3, len(used) // 3, len(used) - 1, len(used)}:
                    steps = min(steps, len(used))
                    self.assertEqual(vertex_counts(polygon, point, steps), counts_of(polygon, used[:steps]))

    def test_every_number_of_steps(self):
        for polygon, point, closed, before, used, points in NEAR[::150]:
            used = oracle.path(polygon, point, 150)[0]
            for steps in range(len(used) + 1):
                self.assertEqual(vertex_counts(polygon, point, steps), counts_of(polygon, used[:steps]))

    def test_many_periods(self):
        for polygon, point, closed, before, used, points in NEAR[::3]:
            if closed:
                whole = counts_of(polygon, used)
                for rounds, rest in ((1, 1), (2, 0), (3, len(used) // 2), (4, len(used) - 1)):
                    part = counts_of(polygon, used[:rest])
                    expected = [rounds * one + more for one, more in zip(whole, part)]
                    self.assertEqual(vertex_counts(polygon, point, rounds * len(used) + rest), expected)
                rounds, rest = divmod(FAR, len(used))
                part = counts_of(polygon, used[:rest])
                expected = [rounds * one + more for one, more in zip(whole, part)]
                self.assertEqual(vertex_counts(polygon, point, FAR), expected)

    def test_orbits_that_end(self):
        for polygon, point, closed, before, used, points in NEAR:
            if not closed:
                after = len(used) - before
                for steps in {0, 1, after // 2, after - 1, after}:
                    if 0 <= steps <= after:
                        expected = counts_of(polygon, used[before:before + steps])
                        self.assertEqual(vertex_counts(polygon, point, steps), expected)
                for steps in (after + 1, 2 * after + 2, FAR):
                    self.assert_undefined(after, polygon, point, steps)

    def test_far_away(self):
        source = random.Random(1)
        for number, polygon in enumerate(POLYGONS + MODULUS_4096):
            for point in oracle.random_points(number, polygon, 4, FAR // 1000, (7, 999983)):
                if period_of(polygon, point) is not None:
                    first, second = source.randrange(FAR // 2), source.randrange(FAR // 2)
                    start = vertex_counts(polygon, point, first)
                    rest = vertex_counts(polygon, point_after(polygon, point, first), second)
                    whole = vertex_counts(polygon, point, first + second)
                    self.assertEqual(whole, [one + more for one, more in zip(start, rest)])
                    self.assertEqual(sum(whole), first + second)
                    used = oracle.path(polygon, point, 30)[0]
                    self.assertEqual(vertex_counts(polygon, point, 30), counts_of(polygon, used))
                    self.assertEqual(len(whole), len(polygon))

    def test_a_far_orbit_that_ends(self):
        point = (10 ** 35, 1, 1)
        backward, forward = dead_ends(SQUARE, point)
        first = point_after(SQUARE, point, -backward)
        whole = vertex_counts(SQUARE, first, backward + forward)
        self.assertEqual(sum(whole), backward + forward)
        parts = zip(vertex_counts(SQUARE, first, backward), vertex_counts(SQUARE, point, forward))
        self.assertEqual(whole, [one + more for one, more in parts])
        self.assert_undefined(forward, SQUARE, point, forward + 1)

    def test_counts_that_are_none(self):
        for value in NO_INTEGERS + [-1, FAR + 1, -FAR, 10 ** 999, -(10 ** 999)]:
            for point in ((5, 1, 2), (2, 1, 1)):
                with self.assertRaises(InvalidCount) as caught:
                    vertex_counts(SQUARE, point, value)
                self.assertIs(caught.exception.value, value)

    def test_a_returned_list_is_new(self):
        result = vertex_counts(SQUARE, (5, 1, 2), 3)
        self.assertIs(type(result), list)
        result.clear()
        self.assertEqual(vertex_counts(SQUARE, (5, 1, 2), 3), [1, 1, 1, 0])


class FurthestTest(unittest.TestCase):
    def expected(self, before, points, a, b):
        values = [Fraction(a * x + b * y, d) for x, y, d in points]
        return (oracle.fraction(max(values)), values.index(max(values)) - before)

    def test_example_of_the_document(self):
        self.assertEqual(furthest(SQUARE, (5, 1, 2), 0, 1), ((5, 2), 6))

    def test_orbits_near_the_polygons(self):
        source = random.Random(2)
        for polygon, point, closed, before, used, points in NEAR:
            given = [(1, 0), (0, -1), (1, 1), (-2, 1), (source.randint(-9, 9), source.randint(-9, 9))]
            for a, b in given[:2 if len(points) > 300 else 5]:
                self.assertEqual(furthest(polygon, point, a, b), self.expected(before, points, a, b), (point, a, b))

    def test_along_the_edges_where_many_points_are_equal(self):
        repeated = 0
        for polygon, point, closed, before, used, points in NEAR[::2]:
            corners = polygon.vertices()
            if len(points) < 300:
                for (x, y), (c, d) in zip(corners, corners[1:]):
                    a, b = y - d, c - x
                    values = [a * point[0] + b * point[1] for point in points]
                    repeated += values.count(max(values)) > 1
                    self.assertEqual(furthest(polygon, point, a, b), self.expected(before, points, a, b))
                    self.assertEqual(furthest(polygon, point, -a, -b), self.expected(before, points, -a, -b))
        self.assertGreater(repeated, 100)

    def test_zero_coefficients(self):
        self.assertEqual(furthest(SQUARE, (5, 1, 2), 0, 0), ((0, 1), 0))
        self.assertEqual(furthest(SQUARE, (2, 1, 1), 0, 0), ((0, 1), -1))

    def test_large_coefficients(self):
        for polygon, point, closed, before, used, points in NEAR[::50]:
            for a, b in ((10 ** 500, 1), (-(10 ** 999), 10 ** 998), (3, -(10 ** 700))):
                self.assertEqual(furthest(polygon, point, a, b), self.expected(before, points, a, b))

    def test_a_fraction_in_lowest_terms(self):
        self.assertEqual(furthest(SQUARE, (5, 1, 2), 0, 2), ((5, 1), 6))
        self.assertEqual(furthest(SQUARE, (5, 1, 2), 0, 4), ((10, 1), 6))
        for a, b in ((1, 1), (2, 4), (-3, 6), (6, 0)):
            (n, d), steps = furthest(KITE, (31, 7, 6), a, b)
            self.assertEqual(math.gcd(n, d), 1)
            self.assertGreaterEqual(d, 1)

    def test_orbits_that_end_start_before_the_point(self):
        starts = set()
        for polygon, point, closed, before, used, points in NEAR:
            if not closed and before > 0:
                value, steps = furthest(polygon, point, 1, 3)
                starts.add(steps < 0)
                self.assertGreaterEqual(steps, -before)
                self.assertLessEqual(steps, len(used) - before)
        self.assertEqual(starts, {True, False})

    def test_far_away(self):
        for number, polygon in enumerate(POLYGONS + MODULUS_4096):
            for point in oracle.random_points(number, polygon, 4, FAR // 10 ** 5, (1, 7, 999983)):
                for a, b in ((1, 0), (3, -7), (10 ** 50, 1)):
                    (n, d), steps = furthest(polygon, point, a, b)
                    there = point_after(polygon, point, steps)
                    self.assertEqual((n, d), oracle.fraction(Fraction(a * there[0] + b * there[1], there[2])))
                    self.assert_no_greater_values(polygon, point, a, b, Fraction(n, d))
                    again = furthest(polygon, there, a, b)
                    self.assertEqual(again, ((n, d), 0))

    def assert_no_greater_values(self, polygon, point, a, b, value):
        source = random.Random(3)
        backward, forward = dead_ends(polygon, point)
        low, high = (0, FAR) if backward is None else (-backward, forward)
        for at in range(5):
            x, y, d = point_after(polygon, point, source.randint(low, high))
            self.assertLessEqual(Fraction(a * x + b * y, d), value)

    def test_coefficients_that_are_none(self):
        for value in NO_INTEGERS:
            for given, expected in (((value, 1), value), ((1, value), value), ((value, "x"), value)):
                for point in ((5, 1, 2), (2, 1, 1)):
                    with self.assertRaises(InvalidCoefficient) as caught:
                        furthest(SQUARE, point, *given)
                    self.assertIs(caught.exception.value, expected)

    def test_kinds_of_values(self):
        result = furthest(SQUARE, (5, 1, 2), 1, 1)
        self.assertIs(type(result), tuple)
        self.assertIs(type(result[0]), tuple)


def beat_by_beat(first, second, rate, other_rate):
    """The meeting time by single beats, from (closed, before, vertices, points) of both points."""
    closed, at, used, points = first
    other_closed, to, other_used, other_points = second
    beats = 0
    seen = set()
    while (at, to) not in seen:
        seen.add((at, to))
        if points[at] == other_points[to]:
            return beats
        at, to, beats = at + rate, to + other_rate, beats + 1
        if closed:
            at %= len(points)
        elif not 0 <= at < len(points):
            return None
        if other_closed:
            to %= len(other_points)
        elif not 0 <= to < len(other_points):
            return None
    return None


class MeetingTimeTest(unittest.TestCase):
    def test_examples_of_the_document(self):
        self.assertEqual(meeting_time(SQUARE, (5, 1, 2), (1, -3, 2), 1, 0), 2)
        self.assertEqual(meeting_time(SQUARE, (5, 1, 2), (1, -3, 2), 1, 2), 6)

    def test_points_of_one_orbit(self):
        source = random.Random(4)
        results = {True: 0, False: 0}
        for polygon, point, closed, before, used, points in NEAR[::4]:
            row = (closed, before, used, points)
            for at in range(8):
                to = source.randrange(len(points))
                rates = source.choice([(1, 0), (0, 1), (-1, 0), (1, -1), (2, 5), (-3, 4), (6, 2), (-7, -3), (12, -12)])
                if source.random() < 0.3:
                    rates = (source.randint(-20, 20), source.randint(-20, 20))
                other = oracle.whole(polygon, points[to]) if closed else (closed, to, used, points)
                expected = beat_by_beat(row, other, *rates)
                results[expected is None] += 1
                self.assertEqual(meeting_time(polygon, point, points[to], *rates), expected, (point, to, rates))
        self.assertGreater(min(results.values()), 200)

    def test_orbits_that_end(self):
        source = random.Random(5)
        reached = cut_off = 0
        for polygon, point, closed, before, used, points in NEAR:
            if not closed and len(points) > 2:
                row = (closed, before, used, points)
                for at in range(6):
                    to = source.randrange(len(points))
                    rates = (source.randint(-3, 3), source.randint(-3, 3))
                    expected = beat_by_beat(row, (closed, to, used, points), *rates)
                    gap, gain = to - before, rates[0] - rates[1]
                    if gain != 0 and gap % gain == 0 and gap // gain > 0:
                        reached += expected is not None
                        cut_off += expected is None
                    self.assertEqual(meeting_time(polygon, point, points[to], *rates), expected, (point, to, rates))
        self.assertGreater(reached, 20)
        self.assertGreater(cut_off, 20)

    def test_the_beat_that_is_not_performed(self):
        closed, before, used, points = next(
            row[2:] for row in NEAR if not row[2] and row[0] == SQUARE and len(row[5]) >= 6)
        first, last = points[0], points[-1]
        size = len(used)
        self.assertEqual(meeting_time(SQUARE, first, last, 1, 0), size)
        self.assertEqual(meeting_time(SQUARE, first, last, 0, -1), size)
        self.assertEqual(meeting_time(SQUARE, first, points[1], 1, 0), 1)
        # The second point would have to leave the end of the orbit.
        self.assertIsNone(meeting_time(SQUARE, first, points[-2], 3, 2))
        self.assertIsNone(meeting_time(SQUARE, points[1], first, -2, -1))
        self.assertIsNone(meeting_time(SQUARE, first, last, 2, 1))
        self.assertIsNone(meeting_time(SQUARE, first, last, -1, 0))

    def test_equal_points_meet_at_once(self):
        for point in ((5, 1, 2), (2, 1, 1), (FAR, FAR, 1), (-FAR, 1, 1)):
            for rates in ((0, 0), (1, 1), (5, -7), (1000, -1000)):
                self.assertEqual(meeting_time(SQUARE, point, point, *rates), 0)

    def test_equal_rates(self):
        self.assertIsNone(meeting_time(SQUARE, (5, 1, 2), (1, -3, 2), 0, 0))
        self.assertIsNone(meeting_time(SQUARE, (5, 1, 2), (1, -3, 2), 7, 7))
        self.assertIsNone(meeting_time(SQUARE, (2, 1, 1), (0, -1, 1), 0, 0))
        self.assertIsNone(meeting_time(SQUARE, (2, 1, 1), (0, -1, 1), -1, -1))

    def test_points_of_two_orbits(self):
        self.assertIsNone(meeting_time(SQUARE, (5, 1, 2), (1, 7, 2), 1, 0))
        self.assertIsNone(meeting_time(SQUARE, (5, 1, 2), (5, 1, 3), 1, 0))
        self.assertIsNone(meeting_time(SQUARE, (5, 1, 2), (2, 1, 1), 3, 0))
        self.assertIsNone(meeting_time(SQUARE, (2, 1, 1), (5, 1, 2), 0, 3))
        around = oracle.points_around(PENTAGON, 7, (1, 2), 3)
        for first in around[::7]:
            row = oracle.whole(PENTAGON, first)
            for second in around[::3]:
                if second not in row[3]:
                    for rates in ((1, 0), (2, -3)):
                        self.assertIsNone(meeting_time(PENTAGON, first, second, *rates))

    def test_odd_periods(self):
        points = oracle.whole(TRIANGLE, (1, 1, 1))[3]
        self.assertEqual(meeting_time(TRIANGLE, points[0], points[1], 2, 0), 2)
        self.assertEqual(meeting_time(TRIANGLE, points[0], points[1], -1, 0), 2)
        self.assertIsNone(meeting_time(TRIANGLE, points[0], points[1], 3, 0))

    def test_rates_up_to_1000(self):
        source = random.Random(6)
        for polygon, point, closed, before, used, points in NEAR[::25]:
            row = (closed, before, used, points)
            for rates in ((1000, 999), (-1000, 1000), (1000, -1000), (-999, 1000), (0, 1000)):
                to = source.randrange(len(points))
                other = oracle.whole(polygon, points[to]) if closed else (closed, to, used, points)
                self.assertEqual(
                    meeting_time(polygon, point, points[to], *rates), beat_by_beat(row, other, *rates))

    def test_rates_that_are_none(self):
        for value in NO_INTEGERS + [1001, -1001, 10 ** 999, -(10 ** 999)]:
            for rates in ((value, 1), (1, value), (value, "x"), (1000, value), (-1000, value)):
                for second in ((1, -3, 2), (5, 1, 2), (2, 1, 1)):
                    with self.assertRaises(InvalidCount) as caught:
                        meeting_time(SQUARE, (5, 1, 2), second, *rates)
                    self.assertIs(caught.exception.value, value)

    def test_far_away(self):
        source = random.Random(7)
        results = {True: 0, False: 0}
        for number, polygon in enumerate(POLYGONS + MODULUS_4096):
            for point in oracle.random_points(number, polygon, 4, 10 ** 30, (7, 999983)):
                period = period_of(polygon, point)
                if period is not None:
                    for rates in ((1, 0), (5, -3), (1000, 0), (-1000, 1000)):
                        gap = source.randrange(period)
                        second = point_after(polygon, point, gap)
                        found = meeting_time(polygon, point, second, *rates)
                        results[found is None] += 1
                        self.assert_meeting(period, gap, rates[0] - rates[1], found)
        self.assertGreater(min(results.values()), 5)

    def assert_meeting(self, period, gap, gain, found):
        common = math.gcd(period, gain)
        if gap % common != 0:
            self.assertIsNone(found)
        else:
            self.assertEqual((gap - found * gain) % period, 0)
            self.assertGreaterEqual(found, 0)
            self.assertLess(found, period // common)

    def test_far_orbits_that_end(self):
        point = (10 ** 35, 1, 1)
        backward, forward = dead_ends(SQUARE, point)
        first = point_after(SQUARE, point, -backward)
        size = backward + forward
        last = point_after(SQUARE, first, size)
        self.assertEqual(meeting_time(SQUARE, first, last, 1, 0), size)
        self.assertIsNone(meeting_time(SQUARE, first, last, 0, 1))
        self.assertEqual(steps_between(SQUARE, first, last), size)
        if size % 2 == 0:
            self.assertEqual(meeting_time(SQUARE, first, last, 1, -1), size // 2)
        else:
            self.assertIsNone(meeting_time(SQUARE, first, last, 1, -1))


class GreatestPointTest(unittest.TestCase):
    def test_orbits_near_the_polygons(self):
        for polygon, point, closed, before, used, points in NEAR:
            self.assertEqual(greatest_point(polygon, point), max(points))

    def test_far_away(self):
        for number, polygon in enumerate(POLYGONS + MODULUS_4096):
            for point in oracle.random_points(number, polygon, 3, FAR // 1000, (1, 7)):
                if period_of(polygon, point) is not None:
                    found = greatest_point(polygon, point)
                    self.assertIsNotNone(steps_between(polygon, point, found))
                    self.assertEqual(greatest_point(polygon, point_after(polygon, point, 10 ** 39 + 1)), found)
                    self.assertEqual(Fraction(found[0], found[2]), Fraction(*furthest(polygon, point, 1, 0)[0]))


class InterfaceTest(unittest.TestCase):
    def test_modulus(self):
        for call in (
                lambda: vertex_counts(MODULUS_4100, (1001, 1, 7), 0),
                lambda: furthest(MODULUS_4100, (1001, 1, 7), 0, 0),
                lambda: meeting_time(MODULUS_4100, (1001, 1, 7), (1001, 1, 7), 0, 0)):
            with self.assertRaises(ModulusTooLarge) as caught:
                call()
            self.assertEqual(caught.exception.modulus, 4100)
        for polygon in MODULUS_4096:
            self.assertEqual(sum(vertex_counts(polygon, (1001, 1, 7), 9)), 9)

    def test_arguments_by_name(self):
        self.assertEqual(vertex_counts(steps=3, point=(5, 1, 2), polygon=SQUARE), [1, 1, 1, 0])
        self.assertEqual(furthest(b=1, a=0, point=(5, 1, 2), polygon=SQUARE), ((5, 2), 6))
        self.assertEqual(meeting_time(
            second_rate=2, first_rate=1, second=(1, -3, 2), first=(5, 1, 2), polygon=SQUARE), 6)

    def test_interface_stands_in_its_file(self):
        for function in (vertex_counts, furthest, meeting_time):
            self.assertEqual(function.__module__, orbit_stats.__name__)

    def test_arguments_stay_as_they_were(self):
        vertex_counts(TRIANGLE, (1, 1, 1), 5)
        furthest(TRIANGLE, (1, 1, 1), 1, 2)
        meeting_time(TRIANGLE, (1, 1, 1), (-1, 1, 1), 1, 2)
        self.assertEqual(TRIANGLE.vertices(), [(0, 0), (1, 0), (0, 1)])
