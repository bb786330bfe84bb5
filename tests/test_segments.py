import itertools
import random
import unittest

from outleap import segments
from outleap.errors import InvalidCount
from outleap.polygons import Polygon
from outleap.segments import add_pairs, segments_of
from tests import oracle
from tests.values import FINE, HEXAGON, MODULUS_HUGE, NO_INTEGERS, POLYGONS, SQUARE, TRIANGLE


def pair_shift(corners, first, second):
    return (2 * (corners[second][0] - corners[first][0]), 2 * (corners[second][1] - corners[first][1]))


def rows_by_pairs(polygon, point, steps):
    """The rows of the pairs within that many reflections, and whether the orbit ends within them."""
    corners = polygon.vertices()
    used, points = oracle.path(polygon, point, steps)
    shifts = [pair_shift(corners, first, second) for first, second in zip(used[::2], used[1::2])]
    rows = [(shift, len(list(group))) for shift, group in itertools.groupby(shifts)]
    return rows, len(used) < steps


def shift_at(polygon, point):
    """The translation by the next two reflections, or None if they are not defined."""
    used, points = oracle.path(polygon, point, 2)
    return pair_shift(polygon.vertices(), *used) if len(used) == 2 else None


def moved(point, shift, count):
    x, y, d = point
    return (x + d * count * shift[0], y + d * count * shift[1], d)


class SegmentsTest(unittest.TestCase):
    def assert_as_single_reflections(self, polygon, point, steps):
        rows, ends = rows_by_pairs(polygon, point, steps)
        if ends:
            for limit in (len(rows), len(rows) + 1, 200):
                if 1 <= limit <= 200:
                    self.assertEqual(segments_of(polygon, point, limit), rows[:limit])
        complete = rows[:-1][:200]
        for limit in (1, 2, len(complete) // 2, len(complete)):
            if 1 <= limit <= len(complete):
                self.assertEqual(segments_of(polygon, point, limit), complete[:limit])
        return ends

    def test_example_of_the_document(self):
        expected = [((-2, -2), 1), ((-2, 2), 1), ((2, 2), 1)]
        self.assertEqual(segments_of(SQUARE, (5, 1, 2), 3), expected)

    def test_points_near_polygons(self):
        ends = set()
        for polygon in POLYGONS:
            for point in oracle.points_around(polygon, 8, (1, 2), 1):
                ends.add(self.assert_as_single_reflections(polygon, point, 120))
        self.assertEqual(ends, {True, False})

    def test_many_polygons(self):
        sizes = set()
        for number, polygon in enumerate(oracle.random_polygons(7, 40, 5) + oracle.random_polygons(8, 40, 60)):
            sizes.add(len(polygon))
            for reach in (70, 300):
                for point in oracle.random_points(number, polygon, 3, reach, (1, 2, 3, FINE)):
                    self.assert_as_single_reflections(polygon, point, 300)
        self.assertEqual(sizes, {3, 4, 5, 6})

    def test_points_on_lines_of_edges(self):
        for polygon in POLYGONS:
            corners = polygon.vertices()
            for (a, b), (c, d) in zip(corners, corners[1:] + corners[:1]):
                for n in (-9, -4, -1, 2, 3, 12):
                    self.assert_as_single_reflections(polygon, (a + n * (c - a), b + n * (d - b), 1), 120)

    def test_pairs_of_different_vertices_with_equal_shifts_are_one_row(self):
        # No known orbit has such neighbours, so the joining is tested by itself.
        rows = []
        for shift, count in (((2, 0), 3), ((2, 0), 4), ((0, 2), 1), ((2, 0), 5), ((2, 0), 1), ((2, 0), 2)):
            add_pairs(rows, shift, count)
        self.assertEqual(rows, [((2, 0), 7), ((0, 2), 1), ((2, 0), 8)])

    def test_polygons_with_equal_edges_and_diagonals(self):
        wide = Polygon([(0, 0), (1, 0), (3, 1), (3, 2), (2, 2), (0, 1)])
        house = Polygon([(0, 0), (2, 0), (2, 2), (1, 3), (0, 2)])
        for polygon in (SQUARE, HEXAGON, wide, house):
            for point in oracle.points_around(polygon, 15, (2, 3)):
                self.assert_as_single_reflections(polygon, point, 60)

    def test_neighbours_have_different_shifts(self):
        for number, polygon in enumerate(POLYGONS):
            for point in oracle.random_points(number, polygon, 5, 10 ** 35, (1, 2, FINE)):
                rows = segments_of(polygon, point, 200)
                for first, second in zip(rows, rows[1:]):
                    self.assertNotEqual(first[0], second[0])

    def test_a_row_cut_off_by_the_end(self):
        found = 0
        for polygon in POLYGONS:
            for point in oracle.points_around(polygon, 30, (1,), 3):
                used, points = oracle.path(polygon, point, 200)
                rows, ends = rows_by_pairs(polygon, point, 200)
                if ends and len(rows) > 0:
                    found += rows[-1][1] > 1
                    self.assertEqual(segments_of(polygon, point, len(rows)), rows)
                    self.assertEqual(segments_of(polygon, point, 200), rows)
        self.assertGreater(found, 20)

    def test_an_incomplete_last_pair_is_not_included(self):
        odd = even = 0
        for polygon in POLYGONS:
            for point in oracle.points_around(polygon, 6, (1,)):
                used, points = oracle.path(polygon, point, 100)
                if len(used) < 100:
                    odd += len(used) % 2
                    even += (len(used) + 1) % 2
                    result = segments_of(polygon, point, 200)
                    self.assertEqual(sum(count for shift, count in result), len(used) // 2)
        self.assertGreater(odd, 20)
        self.assertGreater(even, 20)

    def test_orbits_without_a_pair(self):
        self.assertEqual(segments_of(SQUARE, (-2, 0, 1), 5), [])
        self.assertEqual(segments_of(SQUARE, (2, 1, 1), 1), [])
        one_step = [point for point in oracle.points_around(SQUARE, 3, (1,))
                    if len(oracle.path(SQUARE, point, 2)[0]) == 1]
        self.assertGreater(len(one_step), 0)
        for point in one_step:
            self.assertEqual(segments_of(SQUARE, point, 200), [])


class FarAwayTest(unittest.TestCase):
    def assert_true_rows(self, polygon, point, rows, source):
        for shift, count in rows:
            self.assertGreaterEqual(count, 1)
            for at in {0, count - 1, source.randrange(count), source.randrange(count)}:
                self.assertEqual(shift_at(polygon, moved(point, shift, at)), shift)
            point = moved(point, shift, count)
            self.assertNotEqual(shift_at(polygon, point), shift)
        return point

    def test_rows_far_away(self):
        source = random.Random(5)
        longest = 0
        for number, polygon in enumerate(POLYGONS + [MODULUS_HUGE]):
            for reach in (10 ** 6, 10 ** 20, 10 ** 35):
                for point in oracle.random_points(number, polygon, 3, reach, (1, 2, 3, FINE)):
                    rows = segments_of(polygon, point, 200)
                    longest = max([longest] + [count for shift, count in rows])
                    end = self.assert_true_rows(polygon, point, rows, source)
                    if len(rows) < 200:
                        self.assertIsNone(shift_at(polygon, end))
        self.assertGreater(longest, 10 ** 33)

    def test_an_orbit_that_ends_far_away(self):
        point = (10 ** 35, 1, 1)
        rows = segments_of(SQUARE, point, 200)
        self.assertLess(len(rows), 200)
        self.assertIsNone(shift_at(SQUARE, self.assert_true_rows(SQUARE, point, rows, random.Random(6))))

    def test_few_rows_of_many(self):
        point = (10 ** 35 + 1, 3, 2)
        rows = segments_of(SQUARE, point, 200)
        self.assertEqual(len(rows), 200)
        for limit in (1, 2, 3, 50, 199):
            self.assertEqual(segments_of(SQUARE, point, limit), rows[:limit])


class LimitTest(unittest.TestCase):
    def assert_refused(self, value):
        with self.assertRaises(InvalidCount) as caught:
            segments_of(SQUARE, (5, 1, 2), value)
        self.assertIs(caught.exception.value, value)

    def test_bounds(self):
        self.assertEqual(len(segments_of(SQUARE, (5, 1, 2), 1)), 1)
        self.assertEqual(len(segments_of(SQUARE, (5, 1, 2), 200)), 200)
        for value in (0, 201, -1, -200, 10 ** 40, 10 ** 999, -(10 ** 999)):
            self.assert_refused(value)

    def test_other_values(self):
        for value in NO_INTEGERS:
            self.assert_refused(value)

    def test_refused_even_if_the_orbit_has_no_pair(self):
        with self.assertRaises(InvalidCount):
            segments_of(SQUARE, (-2, 0, 1), 0)

    def test_any_modulus(self):
        self.assertEqual(len(segments_of(MODULUS_HUGE, (1001, 1, 7), 200)), 200)


class InterfaceTest(unittest.TestCase):
    def test_kinds_of_values(self):
        result = segments_of(TRIANGLE, (10, 1, 3), 20)
        self.assertIs(type(result), list)
        for row in result:
            self.assertIs(type(row), tuple)
            self.assertIs(type(row[0]), tuple)
            self.assertEqual(len(row[0]), 2)

    def test_arguments_by_name(self):
        self.assertEqual(segments_of(limit=1, point=(5, 1, 2), polygon=SQUARE), [((-2, -2), 1)])

    def test_a_returned_list_is_new(self):
        segments_of(SQUARE, (5, 1, 2), 3).clear()
        self.assertEqual(len(segments_of(SQUARE, (5, 1, 2), 3)), 3)
        self.assertEqual(SQUARE.vertices(), [(0, 0), (1, 0), (1, 1), (0, 1)])

    def test_interface_stands_in_its_file(self):
        self.assertEqual(segments_of.__module__, segments.__name__)
