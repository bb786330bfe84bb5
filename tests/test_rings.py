import itertools
import unittest
from fractions import Fraction
from unittest import mock

from outleap import chains, rings
from outleap.errors import InvalidPoint, InvalidRing, ModulusTooLarge, NotOutside, Undefined
from outleap.modulus import directions, modulus
from outleap.orbit_stats import furthest
from outleap.polygons import Polygon
from outleap.reflections import reflect
from outleap.ring_check import check_ring
from outleap.rings import ring_chain, ring_contains, ring_extent, ring_index
from tests import oracle, ring_oracle
from tests.values import (
    FAR, FINE, HEXAGON, KITE, MODULUS_4096, MODULUS_4100, MODULUS_4100_TOO, MODULUS_HUGE, NO_INTEGERS, PENTAGON,
    POLYGONS, RING_POLYGONS, SIX_DIRECTIONS, SQUARE, TRIANGLE, rotations)

INDEXES = [1, 2, 3, 10, 10 ** 9 + 7, 10 ** 60]
NO_INDEXES = NO_INTEGERS + [0, -1, -2, -(10 ** 60), -(10 ** 999)]


class RingChainTest(unittest.TestCase):
    def test_examples_of_the_document(self):
        self.assertEqual(ring_chain(SQUARE, 1), [
            ((-2, 0, 1), 0, 2, 1), ((0, 2, 1), 3, 1, 1), ((2, 0, 1), 2, 0, 1), ((0, -2, 1), 1, 3, 1)])
        with self.assertRaises(InvalidRing) as caught:
            ring_chain(SQUARE, 0)
        self.assertEqual(caught.exception.value, 0)

    def test_two_to_six_directions_are_tested(self):
        self.assertEqual({len(directions(polygon)) for polygon in RING_POLYGONS}, {2, 3, 4, 5, 6})

    def test_against_the_definition(self):
        for polygon in RING_POLYGONS + MODULUS_4096:
            for index in INDEXES:
                self.assertEqual(ring_chain(polygon, index), ring_oracle.rows(polygon, index))

    def test_many_polygons(self):
        found = 0
        for polygon in oracle.random_polygons(21, 200, 4):
            if modulus(polygon) <= 4096:
                found += 1
                for index in (1, 2, 10 ** 60):
                    self.assertEqual(ring_chain(polygon, index), ring_oracle.rows(polygon, index))
        self.assertGreater(found, 50)

    def test_any_first_vertex(self):
        for polygon in RING_POLYGONS:
            for given in rotations(polygon.vertices()):
                self.assertEqual(ring_chain(Polygon(given), 2), ring_chain(polygon, 2))

    def test_each_copy_shares_a_vertex_with_the_next_one(self):
        for polygon in (SQUARE, TRIANGLE, HEXAGON, KITE, SIX_DIRECTIONS):
            for index in (1, 2, 3):
                copies = ring_oracle.all_copies(polygon, ring_chain(polygon, index))
                for copy, after in zip(copies, copies[1:] + copies[:1]):
                    self.assertEqual(len(set(copy) & set(after)), 1)

    def test_rows_lead_to_each_other_in_great_rings(self):
        for polygon in RING_POLYGONS:
            rows = ring_chain(polygon, 10 ** 60)
            for row, after in zip(rows, rows[1:] + rows[:1]):
                place = ring_oracle.moved(ring_oracle.place_of(row[0]), ring_oracle.shift_of(polygon, row), row[3])
                self.assertEqual(place, ring_oracle.place_of(after[0]))
                last = ring_oracle.copies_of_row(polygon, row, row[3] - 1)[1]
                first = ring_oracle.copies_of_row(polygon, after, 0)[0]
                self.assertEqual(set(last) & set(first), {first[row[1]]})

    def test_indexes_that_are_none(self):
        for index in NO_INDEXES:
            for polygon in (SQUARE, KITE):
                for function in (ring_chain, ring_extent):
                    with self.assertRaises(InvalidRing) as caught:
                        function(polygon, index)
                    self.assertIs(caught.exception.value, index)
                with self.assertRaises(InvalidRing) as caught:
                    ring_contains(polygon, index, (50, 1, 3))
                self.assertIs(caught.exception.value, index)

    def test_modulus(self):
        for polygon in MODULUS_4096:
            self.assertEqual(modulus(polygon), 4096)
            self.assertEqual(len(ring_chain(polygon, 1)), 2 * len(directions(polygon)))
            self.assertEqual(ring_index(polygon, (100, 1, 3)), 1)
        for polygon in (MODULUS_4100, MODULUS_4100_TOO, MODULUS_HUGE):
            for index in (1, 0, None):
                for function in (ring_chain, ring_extent):
                    with self.assertRaises(ModulusTooLarge) as caught:
                        function(polygon, index)
                    self.assertEqual(caught.exception.modulus, modulus(polygon))
                with self.assertRaises(ModulusTooLarge):
                    ring_contains(polygon, index, (2000, 1, 7))
            with self.assertRaises(ModulusTooLarge):
                ring_index(polygon, (2000, 1, 7))


def places_on(path):
    """Corners of the outline, and places between them."""
    found = []
    for start, end in ring_oracle.segments(path):
        found.append(start)
        for share in (Fraction(1, 2), Fraction(3, 7), Fraction(999, 1000)):
            found.append((start[0] + share * (end[0] - start[0]), start[1] + share * (end[1] - start[1])))
    return found


def points_off(place, tiny):
    """Points very close to a place, in four directions that no edge has."""
    x, y = place
    return [oracle.as_point((x + a * tiny, y + b * tiny)) for a, b in ((7, 23), (-7, -23), (29, -11), (-29, 11))]


class RingContainsTest(unittest.TestCase):
    def assert_contains(self, polygon, index, path, point):
        if point[2] <= FINE and not oracle.is_inside(polygon, point):
            expected = ring_oracle.contains(path, ring_oracle.place_of(point))
            self.assertIs(ring_contains(polygon, index, point), expected, (polygon.vertices(), index, point))
            return expected
        return None

    def test_examples_of_the_document(self):
        self.assertIs(ring_contains(SQUARE, 1, (2, 1, 1)), True)
        self.assertIs(ring_contains(SQUARE, 1, (3, 0, 1)), False)
        self.assertEqual(ring_index(SQUARE, (2, 0, 1)), 1)
        self.assertEqual(ring_index(SQUARE, (3, 0, 1)), 2)

    def test_points_on_the_outline(self):
        for polygon in RING_POLYGONS:
            for index in (1, 2, 5, 10 ** 20, 10 ** 36):
                for place in places_on(ring_oracle.outline(polygon, ring_oracle.rows(polygon, index))):
                    point = oracle.as_point(place)
                    self.assertIs(ring_contains(polygon, index, point), True)
                    # Outlines of two rings have no common point.
                    self.assertEqual(ring_index(polygon, point), index)

    def test_points_very_close_to_the_outline(self):
        for polygon in RING_POLYGONS:
            for index in (1, 2, 10 ** 30):
                path = ring_oracle.outline(polygon, ring_oracle.rows(polygon, index))
                answers = []
                for place in places_on(path)[::3]:
                    for point in points_off(place, Fraction(1, 10 ** 5)):
                        answers.append(self.assert_contains(polygon, index, path, point))
                self.assertGreaterEqual(set(answers), {True, False})

    def test_points_around(self):
        for polygon in RING_POLYGONS:
            path = ring_oracle.outline(polygon, ring_oracle.rows(polygon, 1))
            for point in oracle.points_around(polygon, 11, (1, 2, 3), 2):
                self.assert_contains(polygon, 1, path, point)

    def test_points_at_all_distances(self):
        for number, polygon in enumerate(RING_POLYGONS):
            for exponent in (1, 2, 3, 5, 10, 20, 30, 40):
                for point in oracle.random_points(number, polygon, 3, 10 ** exponent, (1, 2, 7, 999983)):
                    index = ring_index(polygon, point)
                    place = ring_oracle.place_of(point)
                    # A ring contains a point exactly from its ring index on.
                    for other in {1, index // 2, index - 2, index - 1, index, index + 1, 2 * index, 10 ** 60}:
                        if other >= 1:
                            path = ring_oracle.outline(polygon, ring_oracle.rows(polygon, other))
                            self.assertIs(ring_oracle.contains(path, place), other >= index)
                            self.assertIs(ring_contains(polygon, other, point), other >= index)

    def test_the_furthest_points(self):
        for polygon in RING_POLYGONS:
            for x, y in ((FAR, FAR), (-FAR, FAR), (FAR, -FAR), (-FAR, -FAR), (FAR, 0), (0, -FAR)):
                index = ring_index(polygon, (x, y, 1))
                self.assertIs(ring_contains(polygon, index, (x, y, 1)), True)
                self.assertIs(ring_contains(polygon, index - 1, (x, y, 1)), False)

    def test_small_points_one_by_one(self):
        for polygon in (SQUARE, TRIANGLE, HEXAGON):
            paths = [ring_oracle.outline(polygon, ring_oracle.rows(polygon, index)) for index in range(1, 30)]
            for point in oracle.points_around(polygon, 17, (1, 2), 2):
                place = ring_oracle.place_of(point)
                expected = next(index for index, path in enumerate(paths, 1) if ring_oracle.contains(path, place))
                self.assertEqual(ring_index(polygon, point), expected)

    def test_polygons_far_from_the_origin(self):
        for polygon in (Polygon([(58, -60), (60, -59), (59, -57)]), Polygon([(-60, 59), (-59, 59), (-59, 60), (-60, 60)])):
            left, low = polygon.vertices()[0]
            for x, y in itertools.product(range(-20, 21, 3), repeat=2):
                point = oracle.lowest(2 * left + x, 2 * low + y, 2)
                if not oracle.is_inside(polygon, point):
                    index = ring_index(polygon, point)
                    self.assertLess(index, 20)
                    for other in range(max(1, index - 1), index + 2):
                        path = ring_oracle.outline(polygon, ring_oracle.rows(polygon, other))
                        self.assertIs(ring_oracle.contains(path, ring_oracle.place_of(point)), other >= index)
                        self.assertIs(ring_contains(polygon, other, point), other >= index)
                        self.assertIs(check_ring(polygon, point, ring_chain(polygon, other)), other >= index)

    def test_the_index_does_not_depend_on_the_estimate(self):
        for number, polygon in enumerate(RING_POLYGONS):
            for point in oracle.random_points(number, polygon, 4, 10 ** 6, (1, 2, 7)):
                index = ring_index(polygon, point)
                for other in (index - 3, index - 1, index, index + 1, index + 5):
                    if other >= 1:
                        with mock.patch.object(chains, "index_estimate", lambda corners, rows, point: other):
                            self.assertEqual(ring_index(polygon, point), index)

    def test_the_estimate_is_close(self):
        # Otherwise the search from there on would never end far away.
        for number, polygon in enumerate(RING_POLYGONS + MODULUS_4096):
            for reach in (10, 10 ** 3, FAR):
                for point in oracle.random_points(number, polygon, 10, reach, (1, 7)):
                    estimate = chains.index_estimate(polygon.vertices(), chains.first_ring(polygon), point)
                    self.assertLessEqual(abs(ring_index(polygon, point) - estimate), 1)

    def test_the_index_changes_by_at_most_1(self):
        for number, polygon in enumerate(RING_POLYGONS):
            for point in oracle.random_points(number, polygon, 4, 400, (1, 3)):
                used, points = oracle.path(polygon, point, 60)
                found = [ring_index(polygon, one) for one in points]
                for first, second in zip(found, found[1:]):
                    self.assertLessEqual(abs(first - second), 1)


class RingExtentTest(unittest.TestCase):
    def expected(self, polygon, places):
        rows = []
        for e in oracle.directions(polygon):
            values = [oracle.cross(e, place) for place in places]
            rows.append((e, oracle.fraction(min(values)), oracle.fraction(max(values))))
        return rows

    def test_example_of_the_document(self):
        self.assertEqual(ring_extent(SQUARE, 1), [((1, 0), (-2, 1), (3, 1)), ((0, 1), (-3, 1), (2, 1))])

    def test_against_all_copies(self):
        for polygon in RING_POLYGONS:
            for index in (1, 2, 3):
                rows = ring_oracle.rows(polygon, index)
                if sum(row[3] for row in rows) < 2000:
                    places = [place for copy in ring_oracle.all_copies(polygon, rows) for place in copy]
                    self.assertEqual(ring_extent(polygon, index), self.expected(polygon, places))

    def test_great_indexes(self):
        for polygon in RING_POLYGONS + MODULUS_4096:
            for index in (10 ** 9, 10 ** 60):
                rows = ring_oracle.rows(polygon, index)
                places = [
                    place for row in rows for times in (0, row[3] - 1, row[3] // 2)
                    for copy in ring_oracle.copies_of_row(polygon, row, times) for place in copy]
                self.assertEqual(ring_extent(polygon, index), self.expected(polygon, places))

    def test_orbits_stay_within_the_extent(self):
        for number, polygon in enumerate(RING_POLYGONS):
            for reach in (10, 10 ** 6, 10 ** 30):
                for point in oracle.random_points(number, polygon, 3, reach, (1, 2, 7)):
                    for (a, b), low, high in ring_extent(polygon, ring_index(polygon, point)):
                        self.assertLessEqual(Fraction(*furthest(polygon, point, -b, a)[0]), Fraction(*high))
                        self.assertLessEqual(Fraction(*furthest(polygon, point, b, -a)[0]), -Fraction(*low))


class InterfaceTest(unittest.TestCase):
    def test_points_that_are_none_and_points_that_are_not_outside(self):
        for point in ((2, 0, 2), [5, 1, 2], None, (FAR + 1, 0, 1)):
            for call in (lambda: ring_index(SQUARE, point), lambda: ring_contains(SQUARE, 1, point)):
                with self.assertRaises(InvalidPoint) as caught:
                    call()
                self.assertIs(caught.exception.value, point)
        for point in ((1, 1, 2), (0, 0, 1), (1, 1, 3)):
            for call in (lambda: ring_index(SQUARE, point), lambda: ring_contains(SQUARE, 1, point)):
                with self.assertRaises(NotOutside) as caught:
                    call()
                self.assertIs(caught.exception.value, point)

    def test_points_without_reflections(self):
        with self.assertRaises(Undefined):
            reflect(SQUARE, (-2, 0, 1))
        self.assertEqual(ring_index(SQUARE, (-2, 0, 1)), 2)
        self.assertIs(ring_contains(SQUARE, 1, (-1, 0, 1)), True)

    def test_arguments_by_name(self):
        self.assertEqual(ring_chain(index=2, polygon=KITE), ring_chain(KITE, 2))
        self.assertEqual(ring_index(point=(3, 0, 1), polygon=SQUARE), 2)
        self.assertIs(ring_contains(point=(2, 1, 1), index=1, polygon=SQUARE), True)
        self.assertEqual(ring_extent(index=1, polygon=PENTAGON), ring_extent(PENTAGON, 1))

    def test_kinds_of_values(self):
        for polygon in POLYGONS:
            for row in ring_chain(polygon, 3):
                self.assertEqual([type(part) for part in row], [tuple, int, int, int])
                self.assertIs(type(row), tuple)
            for row in ring_extent(polygon, 3):
                self.assertEqual([type(row)] + [type(part) for part in row], [tuple] * 4)

    def test_a_returned_list_is_new(self):
        for function in (ring_chain, ring_extent):
            expected = list(function(KITE, 1))
            result = function(KITE, 1)
            self.assertIs(type(result), list)
            result.clear()
            self.assertEqual(function(KITE, 1), expected)
        self.assertEqual(KITE.vertices(), [(0, 0), (4, 0), (3, 3), (0, 4)])

    def test_interface_stands_in_its_file(self):
        for function in (ring_chain, ring_index, ring_contains, ring_extent):
            self.assertEqual(function.__module__, rings.__name__)
