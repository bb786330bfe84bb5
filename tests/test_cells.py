import random
import unittest
from fractions import Fraction

from outleap import cells
from outleap.cells import cell_area, cell_bounds, cell_center, cell_period, cell_vertices, same_cell
from outleap.errors import ModulusTooLarge, NotPeriodic
from outleap.orbits import period_of, point_after
from outleap.segments import segments_of
from tests import oracle
from tests.nearby import NEAR
from tests.values import FAR, HEXAGON, KITE, MODULUS_4096, MODULUS_4100, PENTAGON, POLYGONS, SQUARE, TRIANGLE

FUNCTIONS = (cell_bounds, cell_vertices, cell_area, cell_period, cell_center)


def cell_by_clipping(polygon, used):
    """The corners of the cell whose orbit uses these vertices in a period."""
    return oracle.region(polygon, used * 2 if len(used) % 2 else used)


# (polygon, point, vertices, points, corners of the cell) of closed orbits that are not too long.
CELLS = [
    (polygon, point, used, points, cell_by_clipping(polygon, used))
    for polygon, point, closed, before, used, points in NEAR[::2] if closed and len(used) <= 250]


def mixed(places, weights):
    total = sum(weights)
    x = sum(weight * place[0] for weight, place in zip(weights, places)) / Fraction(total)
    y = sum(weight * place[1] for weight, place in zip(weights, places)) / Fraction(total)
    return (x, y)


def inner_places(places, source):
    """Places strictly within a convex polygon, some of them close to its border."""
    found = [mixed(places, [1] * len(places))]
    for at in range(len(places)):
        weights = [1] * len(places)
        weights[at] = weights[at - 1] = 1000
        found.append(mixed(places, weights))
    found.append(mixed(places, [source.randint(1, 50) for place in places]))
    return found


def border_places(places):
    return places + [mixed([place, places[at - 1]], [3, 7]) for at, place in enumerate(places)]


def outer_places(places):
    """Places a little outside of each edge."""
    center = mixed(places, [1] * len(places))
    found = []
    for x, y in border_places(places):
        found.append((x + (x - center[0]) / 1000, y + (y - center[1]) / 1000))
    return found


def uses_the_same_vertices(polygon, place, used):
    point = oracle.as_point(place)
    if oracle.is_inside(polygon, point):
        return False
    return oracle.path(polygon, point, 2 * len(used))[0] == used * 2


class CellTest(unittest.TestCase):
    def test_examples_of_the_document(self):
        self.assertEqual(cell_bounds(TRIANGLE, (1, 1, 1)), [
            ((1, 0), (0, 1), (2, 1)), ((0, 1), (-2, 1), (0, 1)), ((-1, 1), (-3, 1), (-1, 1))])
        self.assertEqual(cell_vertices(TRIANGLE, (1, 1, 1)), [
            (0, 1, 1), (1, 0, 1), (2, 0, 1), (2, 1, 1), (1, 2, 1), (0, 2, 1)])
        self.assertEqual(cell_area(TRIANGLE, (1, 1, 1)), (3, 1))
        self.assertIs(same_cell(SQUARE, (5, 1, 2), (8, 1, 3)), True)
        self.assertIs(same_cell(SQUARE, (5, 1, 2), (3, 1, 2)), False)
        self.assertEqual(cell_period(TRIANGLE, (1, 1, 1)), (3, True))
        self.assertEqual(cell_period(SQUARE, (5, 1, 2)), (8, False))
        self.assertEqual(cell_center(TRIANGLE, (5, 4, 4)), (1, 1, 1))
        self.assertIsNone(cell_center(SQUARE, (5, 1, 2)))

    def test_all_polygons_and_kinds_of_cells_are_tested(self):
        self.assertEqual({str(row[0].vertices()) for row in CELLS}, {str(polygon.vertices()) for polygon in POLYGONS})
        self.assertGreater(len({len(row[4]) for row in CELLS}), 3)

    def test_bounds(self):
        for polygon, point, used, points, places in CELLS:
            expected = oracle.bounds_of_region(polygon, places)
            self.assertEqual(cell_bounds(polygon, point), expected, (polygon.vertices(), point))

    def test_points_within_the_bounds_use_the_same_vertices(self):
        source = random.Random(1)
        for polygon, point, used, points, places in CELLS[::5]:
            bounds = cell_bounds(polygon, point)
            for place in inner_places(places, source):
                self.assertTrue(self.within(bounds, place))
                self.assertTrue(uses_the_same_vertices(polygon, place, used))

    def test_points_on_a_bound_or_beyond_do_not(self):
        for polygon, point, used, points, places in CELLS[::5]:
            bounds = cell_bounds(polygon, point)
            for place in border_places(places) + outer_places(places):
                self.assertFalse(self.within(bounds, place))
                self.assertFalse(uses_the_same_vertices(polygon, place, used))

    def within(self, bounds, place):
        return all(Fraction(*low) < oracle.cross(e, place) < Fraction(*high) for e, low, high in bounds)

    def test_the_bounds_are_tight(self):
        for polygon, point, used, points, places in CELLS[::3]:
            corners = [(Fraction(x, d), Fraction(y, d)) for x, y, d in cell_vertices(polygon, point)]
            for e, low, high in cell_bounds(polygon, point):
                values = [oracle.cross(e, corner) for corner in corners]
                self.assertEqual((low, high), (oracle.fraction(min(values)), oracle.fraction(max(values))))

    def test_vertices(self):
        for polygon, point, used, points, places in CELLS:
            start = places.index(min(places))
            expected = [oracle.as_point(place) for place in places[start:] + places[:start]]
            self.assertEqual(cell_vertices(polygon, point), expected, (polygon.vertices(), point))

    def test_corners_that_are_no_integers(self):
        fractional = [row for row in CELLS if any(x.denominator > 1 for place in row[4] for x in map(Fraction, place))]
        self.assertGreater(len(fractional), 5)

    def test_area(self):
        for polygon, point, used, points, places in CELLS:
            self.assertEqual(cell_area(polygon, point), oracle.area_of(places))

    def test_all_points_of_a_cell_have_one_cell(self):
        source = random.Random(2)
        for polygon, point, used, points, places in CELLS[::20]:
            for place in inner_places(places, source):
                inner = oracle.as_point(place)
                if inner[2] <= 10 ** 6:
                    self.assertEqual(cell_bounds(polygon, inner), cell_bounds(polygon, point))
                    self.assertEqual(cell_period(polygon, inner), cell_period(polygon, point))
                    self.assertEqual(cell_center(polygon, inner), cell_center(polygon, point))

    def test_long_orbits(self):
        rows = [row for row in NEAR if row[2] and 1000 < len(row[4]) < 6000][::20]
        self.assertGreater(len(rows), 2)
        for polygon, point, closed, before, used, points in rows:
            places = cell_by_clipping(polygon, used)
            self.assertEqual(cell_bounds(polygon, point), oracle.bounds_of_region(polygon, places))


class SameCellTest(unittest.TestCase):
    def test_points_in_the_cell_on_its_border_and_beyond(self):
        source = random.Random(3)
        for polygon, point, used, points, places in CELLS[::7]:
            given = [(place, True) for place in inner_places(places, source)]
            given += [(place, False) for place in border_places(places) + outer_places(places)]
            for place, expected in given:
                other = oracle.as_point(place)
                if other[2] <= 10 ** 6 and not oracle.is_inside(polygon, other):
                    self.assertIs(same_cell(polygon, point, other), expected, (point, other))

    def test_another_cell_of_the_same_orbit(self):
        for polygon, point, used, points, places in CELLS[::7]:
            for other in points[1:3]:
                period = cell_period(polygon, point)[0]
                expected = points.index(other) % period == 0
                self.assertIs(same_cell(polygon, point, other), expected)

    def test_a_second_point_whose_orbit_ends(self):
        self.assertIs(same_cell(SQUARE, (5, 1, 2), (2, 1, 1)), False)
        self.assertIs(same_cell(SQUARE, (5, 1, 2), (3, 0, 1)), False)
        self.assertIs(same_cell(SQUARE, (5, 1, 2), (FAR, FAR, 1)), False)

    def test_the_point_itself(self):
        for polygon, point, used, points, places in CELLS[::9]:
            self.assertIs(same_cell(polygon, point, point), True)


class CellPeriodTest(unittest.TestCase):
    def expected(self, polygon, used, points, places):
        bounds = oracle.bounds_of_region(polygon, places)
        for steps, (x, y, d) in enumerate(points[1:] + points[:1], 1):
            if all(Fraction(*low) * d < oracle.cross(e, (x, y)) < Fraction(*high) * d for e, low, high in bounds):
                return (steps, steps % 2 == 1)

    def test_against_stepping(self):
        kinds = set()
        for polygon, point, used, points, places in CELLS:
            expected = self.expected(polygon, used, points, places)
            kinds.add((expected[1], expected[0] < len(points), expected[0] * 2 % 4))
            self.assertEqual(cell_period(polygon, point), expected, (polygon.vertices(), point))
        # Flipped cells, seen from the center and from other points, and cells that are not flipped, although half of
        # their period may be odd.
        self.assertGreaterEqual(kinds, {(True, False, 2), (True, True, 2), (False, False, 0)})

    def test_cells_that_are_not_flipped_although_half_of_their_period_is_odd(self):
        rows = [row for row in CELLS if cell_period(row[0], row[1])[0] % 4 == 2]
        self.assertGreater(len(rows), 3)
        for polygon, point, used, points, places in rows:
            self.assertEqual(cell_period(polygon, point), (len(points), False))
            self.assertIsNone(cell_center(polygon, point))

    def test_center(self):
        for polygon, point, used, points, places in CELLS:
            steps, flipped = self.expected(polygon, used, points, places)
            expected = oracle.as_point(mixed(places, [1] * len(places))) if flipped else None
            self.assertEqual(cell_center(polygon, point), expected)
            if flipped:
                self.assertEqual(period_of(polygon, expected), steps)
                self.assertEqual(period_of(polygon, point), steps if point == expected else 2 * steps)
            else:
                self.assertEqual(period_of(polygon, point), steps)


class FarAwayTest(unittest.TestCase):
    def far_points(self):
        for number, polygon in enumerate(POLYGONS + MODULUS_4096):
            for point in oracle.random_points(number, polygon, 4, FAR // 10 ** 6, (1, 2, 3)):
                if period_of(polygon, point) is not None:
                    yield polygon, point

    def test_some_are_flipped_and_some_are_not(self):
        found = {cell_period(polygon, point)[1] for polygon, point in self.far_points()}
        self.assertEqual(found, {True, False})

    def test_inside_on_the_border_and_outside(self):
        source = random.Random(4)
        for polygon, point in self.far_points():
            corners = cell_vertices(polygon, point)
            places = [(Fraction(x, d), Fraction(y, d)) for x, y, d in corners]
            rows = segments_of(polygon, point, 200)
            steps, flipped = cell_period(polygon, point)
            for place in inner_places(places, source):
                inner = oracle.as_point(place)
                if inner[2] <= 10 ** 6:
                    self.assertIs(same_cell(polygon, point, inner), True)
                    self.assertEqual(segments_of(polygon, inner, 200), rows)
                    self.assertIn(period_of(polygon, inner), (steps, 2 * steps) if flipped else (steps,))
                    self.assertEqual(cell_vertices(polygon, inner), corners)
            for place in border_places(places):
                border = oracle.as_point(place)
                self.assertIs(same_cell(polygon, point, border), False)
                # Beside the polygon, a border is where a reflection becomes undefined.
                self.assertIsNone(period_of(polygon, border))
            for place in outer_places(places):
                outer = oracle.as_point(place)
                if outer[2] <= 10 ** 6:
                    self.assertIs(same_cell(polygon, point, outer), False)

    def test_period_and_center(self):
        for polygon, point in self.far_points():
            steps, flipped = cell_period(polygon, point)
            image = point_after(polygon, point, steps)
            center = cell_center(polygon, point)
            if flipped:
                self.assertEqual(steps % 2, 1)
                self.assertEqual(point_after(polygon, center, steps), center)
                self.assertEqual([a + b for a, b in zip(point[:2], image[:2])], [2 * point[2] * a for a in center[:2]])
                self.assertIs(same_cell(polygon, point, center), True)
            else:
                self.assertIsNone(center)
                self.assertEqual(image, point)

    def test_images_of_a_cell(self):
        for polygon, point in self.far_points():
            image = point_after(polygon, point, 10 ** 30)
            self.assertEqual(cell_area(polygon, image), cell_area(polygon, point))
            self.assertEqual(cell_period(polygon, image), cell_period(polygon, point))
            moved = [(x, y) for x, y, d in (image, point)]
            d = point[2]
            shift = ((moved[0][0] - moved[1][0]) // d, (moved[0][1] - moved[1][1]) // d)
            expected = [
                oracle.lowest(x + m * shift[0], y + m * shift[1], m) for x, y, m in cell_vertices(polygon, point)]
            self.assertEqual(cell_vertices(polygon, image), expected)


class ErrorTest(unittest.TestCase):
    def test_orbits_that_end(self):
        for polygon, point, closed, before, used, points in NEAR[::3]:
            if not closed:
                for function in FUNCTIONS:
                    with self.assertRaises(NotPeriodic) as caught:
                        function(polygon, point)
                    self.assertIs(caught.exception.value, point)
                with self.assertRaises(NotPeriodic) as caught:
                    same_cell(polygon, point, (1001, 1, 7))
                self.assertIs(caught.exception.value, point)

    def test_modulus(self):
        for function in FUNCTIONS:
            with self.assertRaises(ModulusTooLarge) as caught:
                function(MODULUS_4100, (1001, 1, 7))
            self.assertEqual(caught.exception.modulus, 4100)
            for polygon in MODULUS_4096:
                function(polygon, (1001, 1, 7))
        with self.assertRaises(ModulusTooLarge):
            same_cell(MODULUS_4100, (1001, 1, 7), (1001, 1, 7))


class InterfaceTest(unittest.TestCase):
    def test_arguments_by_name(self):
        for function in FUNCTIONS:
            self.assertEqual(function(point=(1, 1, 1), polygon=TRIANGLE), function(TRIANGLE, (1, 1, 1)))
        self.assertIs(same_cell(other=(8, 1, 3), point=(5, 1, 2), polygon=SQUARE), True)

    def test_kinds_of_values(self):
        for polygon, point in ((KITE, (31, 7, 3)), (HEXAGON, (7, 2, 3)), (PENTAGON, (50, 1, 3))):
            for row in cell_bounds(polygon, point):
                self.assertEqual([type(row)] + [type(part) for part in row], [tuple] * 4)
            self.assertEqual({type(corner) for corner in cell_vertices(polygon, point)}, {tuple})
            self.assertIs(type(cell_area(polygon, point)), tuple)
            self.assertIs(type(cell_period(polygon, point)), tuple)
            self.assertIs(type(cell_period(polygon, point)[1]), bool)

    def test_a_returned_list_is_new(self):
        for function in (cell_bounds, cell_vertices):
            expected = list(function(TRIANGLE, (1, 1, 1)))
            result = function(TRIANGLE, (1, 1, 1))
            self.assertIs(type(result), list)
            result.clear()
            self.assertEqual(function(TRIANGLE, (1, 1, 1)), expected)
        self.assertEqual(TRIANGLE.vertices(), [(0, 0), (1, 0), (0, 1)])

    def test_interface_stands_in_its_file(self):
        for function in FUNCTIONS + (same_cell,):
            self.assertEqual(function.__module__, cells.__name__)
