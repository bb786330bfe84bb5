import copy
import itertools
import random
import unittest

from outleap import ring_check
from outleap.errors import InvalidPoint, NotOutside
from outleap.chains import least_index, ring_rows
from outleap.modulus import modulus
from outleap.points import is_outside
from outleap.ring_check import check_ring, stays_in_cones
from outleap.rings import ring_chain, ring_index
from tests import oracle, ring_oracle
from tests.test_points import NO_POINTS
from tests.values import (
    FAR, HEXAGON, KITE, MODULUS_4100, MODULUS_HUGE, OTHER_VALUES, POLYGONS, RING_POLYGONS, SQUARE, TRAPEZOID, TRIANGLE,
    rotations)

RING = [((-2, 0, 1), 0, 2, 1), ((0, 2, 1), 3, 1, 1), ((2, 0, 1), 2, 0, 1), ((0, -2, 1), 1, 3, 1)]


def chain(polygon, parts):
    """The closed chain with opposite rows whose first half has these (near, far, count)."""
    corners = polygon.vertices()
    shifts = []
    for near, far, count in parts:
        (a, b), (c, d) = corners[near], corners[far]
        shifts.append((2 * count * (c - a), 2 * count * (d - b)))
    x, y = -sum(shift[0] for shift in shifts) // 2, -sum(shift[1] for shift in shifts) // 2
    rows = []
    for (near, far, count), shift in zip(parts, shifts):
        rows.append(((x, y, 1), near, far, count))
        x, y = x + shift[0], y + shift[1]
    return rows + ring_oracle.opposite(rows)


def cut(polygon, rows, at, count):
    """The rows with one of them cut into two."""
    (x, y, d), near, far, whole = rows[at]
    a, b = ring_oracle.shift_of(polygon, rows[at])
    parts = [((x, y, d), near, far, count), ((x + d * count * a, y + d * count * b, d), near, far, whole - count)]
    return rows[:at] + parts + rows[at + 1:]


def cut_both(polygon, rows, at, count):
    half = len(rows) // 2
    return cut(polygon, cut(polygon, rows, at + half, count), at, count)


def replaced(rows, at, position, part):
    """The rows with another part in one of them."""
    row = list(rows[at])
    row[position] = part
    return rows[:at] + [tuple(row)] + rows[at + 1:]


class AcceptTest(unittest.TestCase):
    def assert_ring(self, polygon, point, value):
        before = copy.deepcopy(value)
        self.assertIs(check_ring(polygon, point, value), True, (polygon.vertices(), point, value))
        self.assertEqual(value, before)

    def test_examples_of_the_document(self):
        self.assert_ring(SQUARE, (2, 0, 1), RING)
        self.assertIs(check_ring(SQUARE, (2, 0, 1), []), False)

    def test_rings_that_contain_the_point(self):
        for number, polygon in enumerate(RING_POLYGONS):
            for reach in (5, 100, 10 ** 20, FAR):
                for point in oracle.random_points(number, polygon, 3, reach, (1, 2, 7)):
                    index = ring_index(polygon, point)
                    for other in (index, index + 1, 10 ** 60):
                        self.assert_ring(polygon, point, ring_chain(polygon, other))
                    if index > 1:
                        self.assertIs(check_ring(polygon, point, ring_chain(polygon, index - 1)), False)

    def test_started_at_any_row_as_lists_and_as_tuples(self):
        for polygon in RING_POLYGONS:
            for rows in rotations(ring_chain(polygon, 6)):
                self.assert_ring(polygon, (7, 2, 1), rows)
                self.assert_ring(polygon, (7, 2, 1), tuple(rows))

    def test_opposite_rows_cut_into_two(self):
        for polygon in RING_POLYGONS:
            rows = ring_chain(polygon, 6)
            for at in range(len(rows) // 2):
                for count in {1, rows[at][3] // 2, rows[at][3] - 1}:
                    for value in rotations(cut_both(polygon, rows, at, count))[::3]:
                        self.assert_ring(polygon, (7, 2, 1), value)
                        self.assert_ring(polygon, (7, 2, 1), tuple(value))

    def test_cut_several_times(self):
        rows = ring_chain(HEXAGON, 10 ** 30)
        for at in (0, 2, 1, 4, 0):
            rows = cut_both(HEXAGON, rows, at, rows[at][3] // 3)
        self.assertEqual(len(rows), 16)
        self.assert_ring(HEXAGON, (10 ** 30, 1, 1), rows)

    def test_points_on_the_outline(self):
        for polygon in RING_POLYGONS:
            for index in (1, 4):
                for place in ring_oracle.outline(polygon, ring_oracle.rows(polygon, index)):
                    self.assert_ring(polygon, oracle.as_point(place), ring_chain(polygon, index))

    def test_any_modulus(self):
        for polygon in [MODULUS_4100, MODULUS_HUGE] + oracle.random_polygons(31, 12, 60):
            self.assertGreater(modulus(polygon), 4096)
            point = (10 ** 30, 7, 3)
            index = least_index(polygon, point)
            self.assert_ring(polygon, point, ring_rows(polygon, index))
            self.assert_ring(polygon, point, ring_rows(polygon, index + 1))
            if index > 1:
                self.assertIs(check_ring(polygon, point, ring_rows(polygon, index - 1)), False)
            self.assertIs(check_ring(polygon, point, None), False)

    def test_rings_of_other_shapes(self):
        # The numbers of copies on opposite sides of the square may grow by any number.
        for first, second in itertools.product(range(1, 6), repeat=2):
            value = chain(SQUARE, [(0, 2, first), (3, 1, second)])
            expected = not ring_oracle.broken_conditions(SQUARE, (3, 2, 2), value)
            self.assertIs(check_ring(SQUARE, (3, 2, 2), value), expected)


class RefuseTest(unittest.TestCase):
    def assert_refused(self, polygon, point, value, broken=None):
        before = copy.deepcopy(value)
        found = ring_oracle.broken_conditions(polygon, point, value)
        self.assertNotEqual(found, set())
        if broken is not None:
            self.assertEqual(found, broken)
        self.assertIs(check_ring(polygon, point, value), False, value)
        self.assertEqual(value, before)

    def test_other_values(self):
        for value in OTHER_VALUES:
            self.assert_refused(SQUARE, (2, 0, 1), value)
            for at in range(4):
                self.assert_refused(SQUARE, (2, 0, 1), RING[:at] + [value] + RING[at + 1:])
        for value in ({at: row for at, row in enumerate(RING)}, {row: row for row in RING}, str(RING), RING[0]):
            self.assert_refused(SQUARE, (2, 0, 1), value)

    def test_numbers_of_rows(self):
        for size in (0, 1, 2, 3):
            self.assert_refused(SQUARE, (2, 0, 1), RING[:size], {"number"})
            self.assert_refused(SQUARE, (2, 0, 1), tuple(RING[:size]), {"number"})
        self.assert_refused(SQUARE, (2, 0, 1), RING + RING[:1], {"number"})
        self.assert_refused(SQUARE, (2, 0, 1), cut(SQUARE, ring_chain(SQUARE, 3), 0, 1), {"number"})

    def test_rows_that_are_no_tuples_of_four(self):
        for at in range(4):
            for row in (list(RING[at]), RING[at][:3], RING[at] + (1,), RING[at] + (), dict(enumerate(RING[at]))):
                value = RING[:at] + [row] + RING[at + 1:]
                if row != RING[at]:
                    self.assert_refused(SQUARE, (2, 0, 1), value, {"row"})
        self.assert_refused(SQUARE, (2, 0, 1), [list(row) for row in RING], {"row"})

    def test_starts(self):
        for at in range(4):
            x, y, d = RING[at][0]
            starts = [
                [x, y, d], (x, y), (x, y, d, 1), (x, y, True), (x, y, 0), (-x, -y, -d), (2 * x, 2 * y, 2 * d),
                (x, False, d), (False, y, d), (str(x), y, d), (x, y, None), x, None]
            for start in starts:
                self.assert_refused(SQUARE, (2, 0, 1), replaced(RING, at, 0, start))

    def test_all_starts_not_in_lowest_terms(self):
        value = [((2 * x, 2 * y, 2 * d), near, far, count) for (x, y, d), near, far, count in RING]
        self.assert_refused(SQUARE, (2, 0, 1), value, {"row"})
        value = [((-x, -y, -d), near, far, count) for (x, y, d), near, far, count in RING]
        self.assert_refused(SQUARE, (2, 0, 1), value, {"row"})

    def test_vertex_numbers(self):
        for at in range(4):
            start, near, far, count = RING[at]
            # Numbers that Python would take for the same vertex, and others.
            for position, number in ((1, near), (2, far)):
                for part in (number - 4, number + 4, str(number), (number,), [number], None, 10 ** 999):
                    self.assert_refused(SQUARE, (2, 0, 1), replaced(RING, at, position, part), {"row"})
                if number in (0, 1):
                    self.assert_refused(SQUARE, (2, 0, 1), replaced(RING, at, position, bool(number)), {"row"})
            self.assert_refused(SQUARE, (2, 0, 1), replaced(RING, at, 1, far), {"row"})
            self.assert_refused(SQUARE, (2, 0, 1), replaced(RING, at, 2, near), {"row"})

    def test_equal_vertex_numbers_that_lead_nowhere(self):
        rows = ring_chain(SQUARE, 3)
        half = len(rows) // 2
        stays = rows[0][0], 0, 0, 1
        value = [stays] + rows[:half] + ring_oracle.opposite([stays]) + rows[half:]
        self.assert_refused(SQUARE, (2, 0, 1), value, {"row"})

    def test_counts(self):
        for at in range(4):
            for part in (True, 0, -1, False, None, "1", [1], (1,)):
                self.assert_refused(SQUARE, (2, 0, 1), replaced(RING, at, 3, part), {"row"})
        self.assert_refused(SQUARE, (2, 0, 1), [row[:3] + (True,) for row in RING], {"row"})

    def test_counts_of_0_and_below_that_close_the_chain(self):
        rows = ring_chain(SQUARE, 3)
        for count in (0, -1):
            value = cut_both(SQUARE, rows, 0, count)
            self.assert_refused(SQUARE, (2, 0, 1), value, {"row"})

    def test_rows_that_do_not_lead_to_the_next_one(self):
        for polygon in POLYGONS:
            rows = ring_chain(polygon, 5)
            half = len(rows) // 2
            for at in range(half):
                less = rows[at][3] - 1
                value = replaced(replaced(rows, at, 3, less), at + half, 3, less)
                self.assert_refused(polygon, (7, 2, 1), value, {"next"})
                more = rows[at][3] + 1
                self.assert_refused(polygon, (7, 2, 1), replaced(replaced(rows, at, 3, more), at + half, 3, more))

    def test_rows_without_opposite_ones(self):
        for polygon in POLYGONS:
            rows = ring_chain(polygon, 4)
            for first, second in ((0, 1), (1, 2), (0, len(rows) - 1)):
                value = cut(polygon, cut(polygon, rows, second, 1), first, 1)
                self.assert_refused(polygon, (7, 2, 1), value, {"opposite"})
            half = len(rows) // 2
            value = cut(polygon, cut(polygon, rows, half, 1), 0, 2)
            self.assert_refused(polygon, (7, 2, 1), value, {"opposite"})

    def test_copies_outside_of_the_cones(self):
        for polygon in (SQUARE, TRIANGLE, HEXAGON, TRAPEZOID):
            parts = [row[1:] for row in ring_chain(polygon, 3)][:len(ring_chain(polygon, 3)) // 2]
            found = 0
            for at, change in itertools.product(range(len(parts)), (-3, -2, -1, 1, 2, 3, 5)):
                near, far, count = parts[at]
                if count + change >= 1:
                    value = chain(polygon, parts[:at] + [(near, far, count + change)] + parts[at + 1:])
                    broken = ring_oracle.broken_conditions(polygon, (3, -2, 1), value)
                    self.assertIs(check_ring(polygon, (3, -2, 1), value), not broken)
                    found += broken == {"near", "far"}
            if polygon != SQUARE:
                self.assertGreater(found, 2)

    def test_each_cone_by_itself(self):
        for polygon in (SQUARE, TRIANGLE, KITE):
            corners = polygon.vertices()
            found = set()
            for near, far in itertools.permutations(range(len(corners)), 2):
                for x, y, count in itertools.product(range(-12, 13, 3), range(-12, 13, 3), (1, 2, 3)):
                    row = ((x, y, 1), near, far, count)
                    broken = ring_oracle.broken_conditions(polygon, (50, 1, 1), [row] * 4) & {"near", "far"}
                    found.add(tuple(sorted(broken)))
                    self.assertIs(stays_in_cones(corners, row), not broken)
            self.assertEqual(found, {(), ("near",), ("far",), ("far", "near")})

    def test_the_last_copy_counts_too(self):
        row = ring_chain(SQUARE, 3)[0]
        self.assertTrue(stays_in_cones(SQUARE.vertices(), row))
        self.assertFalse(stays_in_cones(SQUARE.vertices(), row[:3] + (100,)))

    def test_winding_numbers(self):
        for polygon in POLYGONS:
            rows = ring_chain(polygon, 6)
            # Three times around is opposite to itself after half of the rows, too.
            self.assert_refused(polygon, (7, 2, 1), rows * 3, {"winding"})
            self.assertEqual(ring_oracle.broken_conditions(polygon, (7, 2, 1), rows * 2), {"opposite", "winding"})
            self.assert_refused(polygon, (7, 2, 1), rows * 2)

    def test_rings_the_other_way_around(self):
        for polygon in POLYGONS:
            rows = ring_chain(polygon, 3)
            starts = [row[0] for row in rows[1:] + rows[:1]]
            value = [(start, far, near, count) for start, (old, near, far, count) in zip(starts, rows)][::-1]
            self.assertNotIn("next", ring_oracle.broken_conditions(polygon, (7, 2, 1), value))
            self.assert_refused(polygon, (7, 2, 1), value)

    def test_points_that_the_ring_does_not_contain(self):
        for number, polygon in enumerate(RING_POLYGONS):
            for point in oracle.random_points(number, polygon, 5, 10 ** 6, (1, 2, 7)):
                index = ring_index(polygon, point)
                if index > 1:
                    self.assert_refused(polygon, point, ring_chain(polygon, index - 1), {"point"})

    def test_rings_of_other_polygons(self):
        for polygon, other in itertools.permutations(POLYGONS, 2):
            value = ring_chain(other, 3)
            expected = not ring_oracle.broken_conditions(polygon, (7, 2, 1), value)
            self.assertIs(check_ring(polygon, (7, 2, 1), value), expected)

    def test_random_changes(self):
        source = random.Random(6)
        answers = []
        for polygon in (SQUARE, TRIANGLE, HEXAGON, TRAPEZOID):
            for at in range(250):
                rows = ring_chain(polygon, source.randint(1, 3))
                parts = [list(row[1:]) for row in rows[:len(rows) // 2]]
                for change in range(source.randint(1, 2)):
                    near, far = source.sample(range(len(polygon)), 2)
                    one = source.randrange(len(parts))
                    if source.random() < 0.6:
                        parts[one][2] = max(1, parts[one][2] + source.choice([-2, -1, 1, 2]))
                    elif source.random() < 0.5:
                        parts[one] = [near, far, parts[one][2]]
                    else:
                        parts.insert(one, [near, far, 1])
                value = chain(polygon, parts)
                point = source.choice([(3, -2, 1), (50, 1, 7), (-7, 9, 2)])
                answers.append(check_ring(polygon, point, value))
                self.assertIs(answers[-1], not ring_oracle.broken_conditions(polygon, point, value))
        self.assertGreater(answers.count(True), 10)


class ErrorTest(unittest.TestCase):
    def test_points_that_are_none(self):
        for point in NO_POINTS:
            for value in (RING, [], None):
                for polygon in (SQUARE, MODULUS_HUGE):
                    with self.assertRaises(InvalidPoint) as caught:
                        check_ring(polygon, point, value)
                    self.assertIs(caught.exception.value, point)

    def test_points_that_are_not_outside(self):
        for point in ((0, 0, 1), (1, 1, 2), (1, 1, 3), (1, 0, 2)):
            for value in (RING, [], None):
                self.assertFalse(is_outside(SQUARE, point))
                with self.assertRaises(NotOutside) as caught:
                    check_ring(SQUARE, point, value)
                self.assertIs(caught.exception.value, point)

    def test_arguments_by_name(self):
        self.assertIs(check_ring(value=RING, point=(2, 0, 1), polygon=SQUARE), True)
        self.assertIs(check_ring(value=RING[::-1], point=(2, 0, 1), polygon=SQUARE), False)

    def test_interface_stands_in_its_file(self):
        self.assertEqual(check_ring.__module__, ring_check.__name__)
