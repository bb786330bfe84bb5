import itertools
import unittest
from fractions import Fraction
from unittest import mock

from outleap import regions
from outleap.affine import scale, transform
from outleap.cells import cell_vertices, same_cell
from outleap.errors import InvalidPoint, InvalidRing, ModulusTooLarge, NotOutside, RegionTooLarge
from outleap.modulus import modulus
from outleap.points import is_point
from outleap.polygons import Polygon
from outleap.regions import cells_in_region, doubled_part, region_area, region_contains
from outleap.rings import ring_contains, ring_index
from tests import oracle, ring_oracle
from tests.test_rings import NO_INDEXES
from tests.values import (
    FAR, HEXAGON, KITE, MODULUS_4096, MODULUS_4100, MODULUS_HUGE, PENTAGON, RING_POLYGONS, SIX_DIRECTIONS, SQUARE,
    TRAPEZOID, TRIANGLE)

SLANTED = Polygon([(0, 0), (1, 0), (2, 1), (0, 1)])
# All edges are level, upright or along one of the diagonals, so the cells consist of halves of unit squares.
HALVES = [(SQUARE, 1, 5), (SQUARE, -1, 2), (TRIANGLE, -1, 4), (HEXAGON, 1, 2), (SLANTED, 1, 2)]


class Halves:
    """The region of a ring in halves of unit squares, found by coming from far away.

    A half (i, j, k) belongs to the unit square at (i, j), which is cut along (1, 1) or (-1, 1); k is 0 for the lower
    half and 1 for the upper one.
    """

    def __init__(self, polygon, index, slant):
        self.slant = slant
        copies = ring_oracle.all_copies(polygon, ring_oracle.rows(polygon, index))
        reach = 2 + int(max(abs(part) for copy in copies for place in copy for part in place))
        squares = itertools.product(range(-reach, reach + 1), repeat=2)
        self.all = [(i, j, k) for i, j in squares for k in (0, 1)]
        full = {half for copy in copies for half in self.within(copy)}
        outside = self.reachable((-reach, -reach, 0), set(self.all) - full)
        corners = polygon.vertices()
        self.region = {
            half for half in self.all
            if half not in outside and not ring_oracle.in_convex(corners, self.center(half))}

    def center(self, half):
        i, j, k = half
        third = Fraction(1, 3)
        x = third + third * k if self.slant == -1 else 2 * third - third * k
        return (i + x, j + third + third * k)

    def within(self, copy):
        low_x, high_x = min(x for x, y in copy), max(x for x, y in copy)
        low_y, high_y = min(y for x, y in copy), max(y for x, y in copy)
        for i, j, k in itertools.product(range(int(low_x), int(high_x)), range(int(low_y), int(high_y)), (0, 1)):
            if ring_oracle.in_convex(copy, self.center((i, j, k))):
                yield (i, j, k)

    def neighbours(self, half):
        i, j, k = half
        side = 1 if k == 1 else -1
        return [(i, j, 1 - k), (i, j + side, 1 - k), (i - self.slant * side, j, 1 - k)]

    def reachable(self, start, free):
        seen, todo = {start}, [start]
        while todo:
            for half in self.neighbours(todo.pop()):
                if half in free and half not in seen:
                    seen.add(half)
                    todo.append(half)
        return seen

    def half_at(self, place):
        i, j = place[0] // 1, place[1] // 1
        x, y = place[0] - i, place[1] - j
        return (int(i), int(j), int(y > x if self.slant == 1 else x + y > 1))

    def touched(self, place):
        """All halves that touch a place."""
        tiny = Fraction(1, 1000)
        steps = [(3, 1), (1, 3), (-1, 3), (-3, 1), (-3, -1), (-1, -3), (1, -3), (3, -1)]
        return {self.half_at((place[0] + tiny * x, place[1] + tiny * y)) for x, y in steps}


def outer_area(polygon, rows):
    """The area within the outer side of all copies, without the polygon, following their vertices one by one."""
    copies = ring_oracle.all_copies(polygon, rows)
    path = []
    for at, copy in enumerate(copies):
        (entry,) = set(copy) & set(copies[at - 1])
        (leave,) = set(copy) & set(copies[(at + 1) % len(copies)])
        place = copy.index(entry)
        while copy[place] != leave:
            path.append(copy[place])
            place = (place - 1) % len(copy)
    whole = Fraction(*oracle.area_of(path[::-1])) - Fraction(*oracle.area_of(polygon.vertices()))
    return oracle.fraction(whole)


def mean(places):
    return (sum(Fraction(x) for x, y in places) / len(places), sum(Fraction(y) for x, y in places) / len(places))


class RegionContainsTest(unittest.TestCase):
    def test_examples_of_the_document(self):
        self.assertIs(region_contains(SQUARE, 1, (5, 1, 2)), True)
        self.assertIs(region_contains(SQUARE, 1, (4, 0, 1)), False)

    def test_against_what_the_copies_enclose(self):
        for polygon, slant, last in HALVES:
            for index in range(1, last + 1):
                halves = Halves(polygon, index, slant)
                for half in halves.all:
                    point = oracle.as_point(halves.center(half))
                    if not oracle.is_inside(polygon, point):
                        self.assertIs(region_contains(polygon, index, point), half in halves.region, (index, point))

    def test_points_on_lines_between_cells(self):
        for polygon, slant, last in HALVES:
            halves = Halves(polygon, 1, slant)
            reach = max(i for i, j, k in halves.all)
            for x, y in itertools.product(range(-2 * reach, 2 * reach), repeat=2):
                place = (Fraction(x, 2), Fraction(y, 2))
                point = oracle.as_point(place)
                if not oracle.is_inside(polygon, point):
                    expected = bool(halves.touched(place) & halves.region)
                    self.assertIs(region_contains(polygon, 1, point), expected, (polygon.vertices(), point))

    def assert_region(self, polygon, index, places):
        rows = ring_oracle.rows(polygon, index)
        path, copies = ring_oracle.outline(polygon, rows), ring_oracle.all_copies(polygon, rows)
        answers = set()
        for place in places:
            point = oracle.as_point(place)
            if is_point(point) and not oracle.is_inside(polygon, point):
                expected = ring_oracle.contains(path, place)
                expected = expected or any(ring_oracle.in_convex(copy, place) for copy in copies)
                self.assertIs(region_contains(polygon, index, point), expected, (polygon.vertices(), point))
                answers.add(expected)
        return answers

    def test_points_in_copies_on_their_borders_and_close_to_them(self):
        for polygon in RING_POLYGONS:
            copies = ring_oracle.all_copies(polygon, ring_oracle.rows(polygon, 1))
            places = []
            for copy in copies[::1 + len(copies) // 8]:
                center = mean(copy)
                edges = list(zip(copy, copy[1:] + copy[:1]))
                border = copy + [mean(edge) for edge in edges]
                places += [center] + border
                for share in (Fraction(999, 1000), Fraction(1001, 1000)):
                    places += [(center[0] + share * (x - center[0]), center[1] + share * (y - center[1])) for x, y in border]
            self.assertEqual(self.assert_region(polygon, 1, places), {True, False})

    def test_parts_of_copies_outside_of_the_outline(self):
        for polygon in RING_POLYGONS:
            found = 0
            for row in ring_oracle.rows(polygon, 10 ** 20):
                for times in (0, 1, row[3] // 2, row[3] - 1):
                    for copy in ring_oracle.copies_of_row(polygon, row, times):
                        point = oracle.as_point(mean(copy))
                        self.assertIs(region_contains(polygon, 10 ** 20, point), True)
                        found += not ring_contains(polygon, 10 ** 20, point)
            self.assertGreater(found, 3)

    def test_points_around(self):
        for polygon in (SQUARE, TRIANGLE, HEXAGON, SLANTED, TRAPEZOID, SIX_DIRECTIONS):
            places = [ring_oracle.place_of(point) for point in oracle.points_around(polygon, 40, (1, 3), 5)]
            self.assert_region(polygon, 1, places)
            if modulus(polygon) < 20:
                self.assert_region(polygon, 3, places)

    def test_from_the_ring_index_on(self):
        for number, polygon in enumerate(RING_POLYGONS):
            for reach in (10, 10 ** 10, FAR):
                for point in oracle.random_points(number, polygon, 4, reach, (1, 2, 7)):
                    index = ring_index(polygon, point)
                    self.assertIs(region_contains(polygon, index, point), True)
                    self.assertIs(region_contains(polygon, index + 1, point), True)
                    if index > 2:
                        self.assertIs(region_contains(polygon, index - 2, point), False)

    def test_orbits_stay_in_the_region(self):
        for polygon in (SQUARE, TRIANGLE, HEXAGON, SLANTED, SIX_DIRECTIONS):
            for point in oracle.points_around(polygon, 20, (1, 3), 4):
                answers = {region_contains(polygon, 1, image) for image in oracle.path(polygon, point, 40)[1]}
                self.assertEqual(len(answers), 1)


class RegionAreaTest(unittest.TestCase):
    def test_example_of_the_document(self):
        self.assertEqual(region_area(SQUARE, 1), (12, 1))

    def test_against_what_the_copies_enclose(self):
        for polygon, slant, last in HALVES:
            for index in range(1, last + 1):
                expected = Fraction(len(Halves(polygon, index, slant).region), 2)
                self.assertEqual(region_area(polygon, index), oracle.fraction(expected))

    def test_against_the_outer_sides_of_all_copies(self):
        found = 0
        for polygon in RING_POLYGONS + oracle.random_polygons(41, 60, 3):
            for index in (1, 2, 3):
                if modulus(polygon) <= 4096:
                    rows = ring_oracle.rows(polygon, index)
                    if sum(row[3] for row in rows) < 1000:
                        found += 1
                        self.assertEqual(region_area(polygon, index), outer_area(polygon, rows))
        self.assertGreater(found, 60)

    def test_parts_of_polygons(self):
        self.assertEqual([doubled_part(SQUARE.vertices(), 0, end) for end in (1, 2, 3)], [2, 1, 0])
        self.assertEqual([doubled_part(KITE.vertices(), 0, end) for end in (1, 2, 3)], [24, 12, 0])
        self.assertEqual([doubled_part(KITE.vertices(), 3, end) for end in (0, 1, 2)], [24, 8, 0])

    def test_great_indexes(self):
        for polygon in RING_POLYGONS + MODULUS_4096:
            # Areas grow like the squares of lengths.
            first, second, third = [Fraction(*region_area(polygon, index)) for index in (1, 2, 3)]
            square = (third - 2 * second + first) / 2
            for index in (4, 10 ** 20, 10 ** 60):
                expected = first + (index - 1) * (second - first) + (index - 1) * (index - 2) * square
                self.assertEqual(region_area(polygon, index), oracle.fraction(expected))


def small_polygons():
    """All polygons with vertices from (0, 0) to (2, 2), and some others, whose first region is small enough."""
    places = list(itertools.product(range(3), repeat=2))
    found = []
    for size in (3, 4, 5, 6):
        for chosen in itertools.combinations(places, size):
            corners = oracle.hull(chosen)
            if len(corners) == size:
                found.append(Polygon(corners))
    for a in (3, 4, 5, 6):
        found.append(Polygon([(0, 0), (a, 0), (0, 1)]))
    for a in (3, 5, 7, 8):
        found.append(Polygon([(0, 0), (a, 0), (a, 1), (0, 1)]))
    found += [Polygon([(0, 0), (4, 1), (5, 3), (1, 2)]), Polygon([(0, 0), (3, 0), (0, 2)])]
    for mapping in ((5, 2, 2, 1, 10, -20), (7, 3, 2, 1, -40, 11), (2, 1, 1, 0, 3, 3), (-3, -1, 1, 0, -50, 50)):
        found += [transform(polygon, mapping) for polygon in (SQUARE, TRIANGLE, HEXAGON, SLANTED)]
    return [polygon for polygon in found if modulus(polygon) <= 4096 and Fraction(*region_area(polygon, 1)) <= 100]


SMALL = small_polygons()


class CellsInRegionTest(unittest.TestCase):
    def test_example_of_the_document(self):
        self.assertEqual(len(cells_in_region(SQUARE, 1)), 12)

    def test_polygons_of_all_kinds_are_tested(self):
        found = {region_area(polygon, 1) for polygon in SMALL}
        self.assertGreaterEqual(found, {(area, 1) for area in (12, 15, 24, 30, 36, 45, 48, 60, 66, 75, 84, 90, 95, 96)})

    def test_ascending_and_each_once(self):
        for polygon in SMALL:
            cells = cells_in_region(polygon, 1)
            self.assertEqual(cells, sorted(cells))
            self.assertEqual(len({tuple(cell) for cell in cells}), len(cells))

    def test_areas_add_up(self):
        for polygon in SMALL:
            for index in (1, 2, 3):
                area = Fraction(*region_area(polygon, index))
                if area <= 100:
                    total = 0
                    for cell in cells_in_region(polygon, index):
                        total += Fraction(*oracle.area_of([ring_oracle.place_of(corner) for corner in cell]))
                    self.assertEqual(total, area)

    def test_each_is_a_cell_of_the_region(self):
        for polygon in SMALL[::3]:
            for cell in cells_in_region(polygon, 1):
                center = oracle.as_point(mean([ring_oracle.place_of(corner) for corner in cell]))
                self.assertEqual(cell_vertices(polygon, center), cell)
                self.assertIs(region_contains(polygon, 1, center), True)

    def test_against_the_cells_of_all_halves(self):
        for polygon, slant, last in HALVES:
            for index in range(1, last + 1):
                halves = Halves(polygon, index, slant)
                if len(halves.region) <= 200:
                    centers = [oracle.as_point(halves.center(half)) for half in halves.region]
                    expected = {tuple(cell_vertices(polygon, center)) for center in centers}
                    self.assertEqual(cells_in_region(polygon, index), sorted(list(cell) for cell in expected))

    def test_copies_are_cells(self):
        for polygon in (SQUARE, TRIANGLE, HEXAGON, SLANTED):
            cells = cells_in_region(polygon, 1)
            for copy in ring_oracle.all_copies(polygon, ring_oracle.rows(polygon, 1)):
                start = copy.index(min(copy))
                self.assertIn([oracle.as_point(place) for place in copy[start:] + copy[:start]], cells)

    def test_no_two_centers_share_a_cell(self):
        for polygon in (TRIANGLE, SLANTED):
            centers = []
            for cell in cells_in_region(polygon, 1):
                centers.append(oracle.as_point(mean([ring_oracle.place_of(corner) for corner in cell])))
            for first, second in itertools.combinations(centers[:30], 2):
                self.assertIs(same_cell(polygon, first, second), False)

    def test_areas_above_100(self):
        given = [(SQUARE, 4), (TRIANGLE, 3), (KITE, 1), (PENTAGON, 10 ** 60), (SLANTED, 2), (scale(SQUARE, 3), 1)]
        given += [(Polygon([(0, 0), (7, 0), (0, 1)]), 1), (Polygon([(0, 0), (9, 0), (9, 1), (0, 1)]), 1)]
        for polygon, index in given:
            with self.assertRaises(RegionTooLarge) as caught:
                cells_in_region(polygon, index)
            self.assertEqual(caught.exception.area, region_area(polygon, index))
            self.assertGreater(Fraction(*caught.exception.area), 100)
        # The least of these are not far above it.
        self.assertEqual([region_area(*pair) for pair in given[-2:]], [(105, 1), (108, 1)])

    def test_an_area_of_exactly_100_and_just_above(self):
        # No region is known that has this very area.
        with mock.patch.object(regions, "region_area", lambda polygon, index: (100, 1)):
            self.assertEqual(len(cells_in_region(SQUARE, 1)), 12)
        for area in ((10001, 100), (101, 1), (201, 2)):
            with mock.patch.object(regions, "region_area", lambda polygon, index: area):
                with self.assertRaises(RegionTooLarge) as caught:
                    cells_in_region(SQUARE, 1)
                self.assertEqual(caught.exception.area, area)


class ErrorTest(unittest.TestCase):
    def test_indexes_that_are_none(self):
        for index in NO_INDEXES:
            for polygon in (SQUARE, KITE):
                for function in (region_area, cells_in_region):
                    with self.assertRaises(InvalidRing) as caught:
                        function(polygon, index)
                    self.assertIs(caught.exception.value, index)
                with self.assertRaises(InvalidRing) as caught:
                    region_contains(polygon, index, (50, 1, 3))
                self.assertIs(caught.exception.value, index)

    def test_modulus(self):
        for index in (1, 0, None, 10 ** 60):
            for polygon in (MODULUS_4100, MODULUS_HUGE):
                for function in (region_area, cells_in_region):
                    with self.assertRaises(ModulusTooLarge) as caught:
                        function(polygon, index)
                    self.assertEqual(caught.exception.modulus, modulus(polygon))
                with self.assertRaises(ModulusTooLarge):
                    region_contains(polygon, index, (2001, 1, 7))
        for polygon in MODULUS_4096:
            self.assertIs(region_contains(polygon, 1, (100, 1, 3)), True)

    def test_points(self):
        for index in (1, 0, None):
            for point in ((2, 0, 2), None, [5, 1, 2]):
                with self.assertRaises(InvalidPoint) as caught:
                    region_contains(MODULUS_HUGE, index, point)
                self.assertIs(caught.exception.value, point)
            for point in ((0, 0, 1), (1, 1, 2)):
                with self.assertRaises(NotOutside) as caught:
                    region_contains(SQUARE, index, point)
                self.assertIs(caught.exception.value, point)


class InterfaceTest(unittest.TestCase):
    def test_arguments_by_name(self):
        self.assertIs(region_contains(point=(5, 1, 2), index=1, polygon=SQUARE), True)
        self.assertEqual(region_area(index=1, polygon=SQUARE), (12, 1))
        self.assertEqual(cells_in_region(index=1, polygon=TRIANGLE), cells_in_region(TRIANGLE, 1))

    def test_kinds_of_values(self):
        self.assertIs(type(region_area(KITE, 2)), tuple)
        for cell in cells_in_region(TRIANGLE, 1):
            self.assertIs(type(cell), list)
            self.assertEqual({type(corner) for corner in cell}, {tuple})

    def test_a_returned_list_is_new(self):
        expected = [list(cell) for cell in cells_in_region(TRIANGLE, 1)]
        result = cells_in_region(TRIANGLE, 1)
        self.assertIs(type(result), list)
        result[0].clear()
        result.clear()
        self.assertEqual(cells_in_region(TRIANGLE, 1), expected)
        self.assertEqual(TRIANGLE.vertices(), [(0, 0), (1, 0), (0, 1)])

    def test_interface_stands_in_its_file(self):
        for function in (region_contains, region_area, cells_in_region):
            self.assertEqual(function.__module__, regions.__name__)
