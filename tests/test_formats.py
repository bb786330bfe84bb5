import copy
import itertools
import random
import unittest

from outleap import formats
from outleap.errors import ParseError
from outleap.formats import (
    format_map, format_point, format_polygon, format_ring, parse_map, parse_point, parse_polygon, parse_ring)
from outleap.points import is_point
from outleap.polygons import Polygon
from outleap.rings import ring_chain
from tests import oracle, ring_oracle
from tests.test_affine import GREAT, MAPS
from tests.values import FAR, FINE, MODULUS_HUGE, OTHER_VALUES, POLYGONS, RING_POLYGONS, SQUARE, TRIANGLE

PARSERS = (parse_point, parse_polygon, parse_ring, parse_map)
# Points as (x, y, d) and their texts.
POINTS = [
    ((5, 1, 2), "5/2 1/2"), ((0, 0, 1), "0 0"), ((1, 1, 1), "1 1"), ((-1, 2, 1), "-1 2"), ((-5, -1, 2), "-5/2 -1/2"),
    ((3, 2, 6), "1/2 1/3"), ((2, 1, 2), "1 1/2"), ((1, 2, 2), "1/2 1"), ((0, -1, 7), "0 -1/7"), ((10, 100, 1), "10 100"),
    ((FAR, -FAR, 1), f"{FAR} {-FAR}"), ((1, -1, FINE), f"1/{FINE} -1/{FINE}"),
    ((FAR * FINE - 1, 1, FINE), f"{FAR * FINE - 1}/{FINE} 1/{FINE}"), ((3, 500000, FINE), f"3/{FINE} 1/2"),
    ((999, 1000, 999000), "1/1000 1/999"),
]
# Points that are written, but not read.
BEYOND = [
    ((FAR + 1, 0, 1), f"{FAR + 1} 0"), ((0, -FAR - 1, 1), f"0 {-FAR - 1}"), ((1, 1, FINE + 1), f"1/{FINE + 1} 1/{FINE + 1}"),
    ((2 * FAR + 1, 0, 2), f"{2 * FAR + 1}/2 0"), ((1001, 1000, 1001000), "1/1000 1/1001"),
    ((10 ** 999, -(10 ** 999), 1), f"{10 ** 999} {-(10 ** 999)}"),
]
TEXTS = [
    "5/2 1/2", "0 0", "-1 2", "1/3 -7", "0 0, 1 0, 0 1", "-60 0, -1 -60, 60 -59, 59 60, -59 60", "-2 0; 0 2; 1",
    "-2 0; 0 2; 1\n0 2; 3 1; 1", "1/2 -3/4; 5 0; 1000", "1 0 0 1 0 -7", "0 -1 1 0 0 0", "10 0, 12 0, 12 20"]
CHARACTERS = " -+/,;0123456789.\nax~"


def changed(text):
    """All texts with one change: a character less, more or another, or two exchanged."""
    for at in range(len(text) + 1):
        for character in CHARACTERS:
            yield text[:at] + character + text[at:]
            yield text[:at] + character + text[at + 1:]
        yield text[:at] + text[at + 1:]
        yield text[:at] + text[at + 1:at + 2] + text[at:at + 1] + text[at + 2:]


class FormatsTestCase(unittest.TestCase):
    def assert_refused(self, parse, value):
        before = copy.deepcopy(value)
        with self.assertRaises(ParseError, msg=repr(value)[:80]) as caught:
            parse(value)
        self.assertIs(type(caught.exception), ParseError)
        self.assertIs(caught.exception.value, value)
        self.assertEqual(value, before)


class PointTest(FormatsTestCase):
    def test_examples_of_the_document(self):
        self.assertEqual(format_point((5, 1, 2)), "5/2 1/2")
        self.assertEqual(parse_point("5/2 1/2"), (5, 1, 2))
        self.assert_refused(parse_point, "2/2 1")

    def test_both_ways(self):
        for point, text in POINTS:
            self.assertTrue(is_point(point))
            self.assertEqual(format_point(point), text)
            self.assertEqual(parse_point(text), point)
            self.assertIs(type(parse_point(text)), tuple)

    def test_all_small_points(self):
        for x, y, d in itertools.product(range(-6, 7), range(-6, 7), range(1, 13)):
            if oracle.lowest(x, y, d) == (x, y, d):
                text = format_point((x, y, d))
                self.assertEqual(text, " ".join(str(part) for part in ring_oracle.place_of((x, y, d))))
                self.assertEqual(parse_point(text), (x, y, d))

    def test_points_beyond_the_bounds_are_written_and_not_read(self):
        for point, text in BEYOND:
            self.assertFalse(is_point(point))
            self.assertEqual(format_point(point), text)
            self.assert_refused(parse_point, text)

    def test_bounds(self):
        for text in (f"{FAR} 0", f"0 {-FAR}", f"1/{FINE} 0", "1/1000 1/999"):
            parse_point(text)
        for text in (f"{FAR + 1} 0", f"0 {-FAR - 1}", f"1/{FINE + 1} 0", "1/1000 1/1001", f"{FAR * 3 + 1}/3 0"):
            self.assert_refused(parse_point, text)

    def test_other_texts(self):
        texts = [
            "", " ", "1", "1 ", " 1", "1  1", " 1 1", "1 1 ", "1 1 1", "1,1", "1, 1", "1;1", "1\n1", "1 1\n", "\n1 1", "1 a",
            "01 1", "1 01", "00 0", "-01 1", "-0 1", "1 -0", "+1 1", "1 +1", "--1 1", "- 1", "1 -", "1- 1",
            "1/1 1", "1 1/1", "2/2 1", "4/2 1", "2/4 1", "6/4 1", "0/2 1", "0/1 1", "-0/2 1", "1/0 1", "1/-2 1", "-1/-2 1",
            "1/+2 1", "1/02 1", "01/2 1", "1/ 1", "/2 1", "/ 1", "1/2/3 1", "1//2 1", "1 /2 1", "1/ 2 1", "1/2 1/", "1.0 1",
            "1e2 1", "1_0 1", "0x1 1", "one 1", "(1, 1, 1)", "1/2  1/2", "1/2 1/2 ", "5/2 1/2 1"]
        for text in texts:
            self.assert_refused(parse_point, text)


class PolygonTest(FormatsTestCase):
    def test_examples_of_the_document(self):
        self.assertEqual(format_polygon(TRIANGLE), "0 0, 1 0, 0 1")
        self.assertEqual(parse_polygon("0 0, 1 0, 0 1").vertices(), [(0, 0), (1, 0), (0, 1)])

    def test_both_ways(self):
        for polygon in RING_POLYGONS + [MODULUS_HUGE] + oracle.random_polygons(61, 40, 60):
            text = format_polygon(polygon)
            self.assertEqual(text, ", ".join(f"{x} {y}" for x, y in polygon.vertices()))
            self.assertIs(type(parse_polygon(text)), Polygon)
            self.assertEqual(parse_polygon(text), polygon)

    def test_other_texts(self):
        texts = [
            "", " ", "0 0", "0 0, 1 0", "0 0, 1 0, 0 1, ", ", 0 0, 1 0, 0 1", "0 0,1 0,0 1", "0 0,  1 0, 0 1", "0 0 , 1 0, 0 1",
            "0 0; 1 0; 0 1", "0 0\n1 0\n0 1", "0 0, 1 0, 0 1\n", " 0 0, 1 0, 0 1", "0 0, 1 0, 0 1 ", "0 0, 1 0, 01 1",
            "0 0, 1 0, -0 1", "0 0, +1 0, 0 1", "0  0, 1 0, 0 1", "0 0, 1 0, 0 1/2", "0 0, 2/2 0, 0 1", "0 0 1, 1 0, 0 1",
            "0, 1 0, 0 1", "0 0, 1 0, 0 1,", "0 0 1 0 0 1", "0 0, 1 0, 0", "0 0, 61 0, 0 1", "0 0, 1 0, 0 61", "-61 0, 1 0, 0 1",
            "0 0, 1 0, 2 0", "0 0, 0 1, 1 0", "0 0, 1 0, 0 1, 0 1", "0 0, 1 0, 1 1, 0 1, 0 0", "0 0, 0 0, 0 0",
            "-3 0, -2 -2, 0 -3, 2 -2, 3 0, 2 2, 0 3"]
        for text in texts:
            self.assert_refused(parse_polygon, text)

    def test_vertices_in_another_order(self):
        for polygon in POLYGONS:
            corners = polygon.vertices()
            for order in itertools.permutations(corners):
                text = ", ".join(f"{x} {y}" for x, y in order)
                if list(order) == corners:
                    self.assertEqual(parse_polygon(text), polygon)
                else:
                    self.assert_refused(parse_polygon, text)


class RingTest(FormatsTestCase):
    def test_examples_of_the_document(self):
        self.assertEqual(format_ring([((-2, 0, 1), 0, 2, 1)]), "-2 0; 0 2; 1")
        self.assertEqual(parse_ring("-2 0; 0 2; 1"), [((-2, 0, 1), 0, 2, 1)])

    def test_both_ways(self):
        for polygon in RING_POLYGONS:
            for index in (1, 2, 10 ** 60, 10 ** 900):
                rows = ring_chain(polygon, index)
                text = format_ring(rows)
                lines = [f"{format_point(start)}; {near} {far}; {count}" for start, near, far, count in rows]
                self.assertEqual(text, "\n".join(lines))
                self.assertEqual(parse_ring(text), rows)

    def test_lists_and_tuples(self):
        rows = ring_chain(SQUARE, 1)
        self.assertEqual(format_ring(tuple(rows)), format_ring(rows))
        self.assertEqual(format_ring(tuple(rows)), "-2 0; 0 2; 1\n0 2; 3 1; 1\n2 0; 2 0; 1\n0 -2; 1 3; 1")

    def test_rows_need_to_satisfy_only_their_own_condition(self):
        for near, far in itertools.permutations(range(6), 2):
            rows = [((1, -7, 30), near, far, 12)]
            self.assertEqual(format_ring(rows), f"1/30 -7/30; {near} {far}; 12")
            self.assertEqual(parse_ring(format_ring(rows)), rows)
        rows = [((0, 0, 1), 0, 1, 10 ** 999)] * 3
        self.assertEqual(parse_ring(format_ring(rows)), rows)

    def test_starts_without_bounds(self):
        for start in ((10 ** 999, -(10 ** 999), 1), (1, 1, 10 ** 999), (7 ** 900, 1, 10 ** 700), (FAR + 1, 0, 1),
                      (1, 3, FINE + 1)):
            rows = [(start, 5, 0, 10 ** 50)]
            self.assertEqual(parse_ring(format_ring(rows)), rows)
        # Two denominators of 1000 digits have a common multiple of many more.
        first, second = 10 ** 999 + 1, 10 ** 999 + 2
        rows = parse_ring(f"1/{first} 1/{second}; 0 1; 1")
        self.assertEqual(rows, [((second, first, first * second), 0, 1, 1)])
        self.assertEqual(format_ring(rows), f"1/{first} 1/{second}; 0 1; 1")

    def test_other_texts(self):
        texts = [
            "", " ", "\n", "-2 0; 0 2; 1\n", "\n-2 0; 0 2; 1", "-2 0; 0 2; 1\n\n-2 0; 0 2; 1", "-2 0; 0 2; 1 ", " -2 0; 0 2; 1",
            "-2 0;0 2;1", "-2 0; 0 2;1", "-2 0;  0 2; 1", "-2 0 ; 0 2; 1", "-2 0, 0 2, 1", "-2 0; 0 2", "-2 0; 0 2; 1; 1",
            "-2 0; 0 2 1", "-2 0; 0; 2; 1", "-2; 0; 0 2; 1", "0 2; 1", "-2 0; 0 0; 1", "-2 0; 0 6; 1", "-2 0; 6 0; 1",
            "-2 0; -1 0; 1", "-2 0; 0 -1; 1", "-2 0; 0 2 3; 1", "-2 0; 00 2; 1", "-2 0; 0 02; 1", "-2 0; 0 2; 0", "-2 0; 0 2; -1",
            "-2 0; 0 2; 01", "-2 0; 0 2; 1/2", "-2 0; 0 2; +1", "-2 0; 0 2; 1 1", "-2/1 0; 0 2; 1", "-4/2 0; 0 2; 1",
            "-02 0; 0 2; 1", "-2 -0; 0 2; 1", "-2 0 0; 0 2; 1", "-2; 0 2; 1", "-2 0; 0 2; 1;", "-2 0; 0 2; 1\n-2 0; 0 2; 0",
            "-2 0; 0 2; 1, -2 0; 0 2; 1", "-2 0; 0 2; 1\n -2 0; 0 2; 1", "-2 0; 0 2; 1 \n-2 0; 0 2; 1", "-2 0; 0 2; 1\t",
            "[]", "((-2, 0, 1), 0, 2, 1)", "-2 0; True 2; 1", "-2 0; 0 2; True"]
        for text in texts:
            self.assert_refused(parse_ring, text)

    def test_a_returned_list_is_new(self):
        result = parse_ring("-2 0; 0 2; 1")
        self.assertEqual((type(result), type(result[0])), (list, tuple))
        result.clear()
        self.assertEqual(parse_ring("-2 0; 0 2; 1"), [((-2, 0, 1), 0, 2, 1)])
        rows = [((-2, 0, 1), 0, 2, 1)]
        format_ring(rows)
        self.assertEqual(rows, [((-2, 0, 1), 0, 2, 1)])


class MapTest(FormatsTestCase):
    def test_examples_of_the_document(self):
        self.assertEqual(format_map((0, -1, 1, 0, 0, 0)), "0 -1 1 0 0 0")
        self.assertEqual(parse_map("1 0 0 1 0 -7"), (1, 0, 0, 1, 0, -7))

    def test_both_ways(self):
        for mapping in MAPS + GREAT:
            text = format_map(mapping)
            self.assertEqual(text, " ".join(str(part) for part in mapping))
            self.assertEqual(parse_map(text), mapping)
            self.assertIs(type(parse_map(text)), tuple)

    def test_other_texts(self):
        texts = [
            "", " ", "1", "1 0 0 1 0", "1 0 0 1 0 0 0", "1 0 0 1 0 0 ", " 1 0 0 1 0 0", "1  0 0 1 0 0", "1, 0, 0, 1, 0, 0",
            "1 0 0 1 0 0\n", "1\n0 0 1 0 0", "01 0 0 1 0 0", "1 0 0 1 0 -0", "1 0 0 1 0 +7", "1 0 0 1 0 07", "1 0 0 1 0 1/2",
            "2/2 0 0 1 0 0", "2 0 0 1 0 0", "1 1 1 1 0 0", "0 0 0 0 0 0", "2 0 0 2 0 0", "(1, 0, 0, 1, 0, 0)", "1;0;0;1;0;0",
            "1 0 0 1 a 0", "1 0 0 1 0 -", "1 0 0 1 0 --1"]
        for text in texts:
            self.assert_refused(parse_map, text)


class AllTextsTest(FormatsTestCase):
    def accepted(self, parse, write, text):
        """Whether a text is the one that is written for some value; what is read says for which."""
        try:
            value = parse(text)
        except ParseError as error:
            self.assertIs(error.value, text)
            return False
        self.assertEqual(write(value), text)
        return True

    def test_texts_with_one_change(self):
        writers = (format_point, format_polygon, format_ring, format_map)
        for text in TEXTS:
            for other in changed(text):
                for parse, write in zip(PARSERS, writers):
                    if self.accepted(parse, write, other) and other != text:
                        # The four kinds of texts exclude each other.
                        self.assertEqual(sum(self.accepted(*pair, other) for pair in zip(PARSERS, writers)), 1)

    def test_random_texts(self):
        source = random.Random(7)
        writers = (format_point, format_polygon, format_ring, format_map)
        for at in range(20000):
            text = "".join(source.choice("01 /-;,\n2") for character in range(source.randint(0, 9)))
            for parse, write in zip(PARSERS, writers):
                self.accepted(parse, write, text)

    def test_numbers_of_1000_digits_and_of_1001(self):
        for sign in ("", "-"):
            for digits in ("1" * 1000, "9" * 1000, "1" + "0" * 999):
                number = int(sign + digits)
                self.assertEqual(parse_map(f"1 0 0 1 0 {sign}{digits}"), (1, 0, 0, 1, 0, number))
                self.assertEqual(parse_ring(f"{sign}{digits} 0; 0 1; 1"), [((number, 0, 1), 0, 1, 1)])
                self.assertEqual(format_point((number, 0, 1)), f"{sign}{digits} 0")
                self.assert_refused(parse_map, f"1 0 0 1 0 {sign}{digits}0")
                self.assert_refused(parse_ring, f"{sign}{digits}0 0; 0 1; 1")
                self.assert_refused(parse_point, f"{sign}{digits}0 0")
                self.assert_refused(parse_polygon, f"0 0, 1 0, 0 {sign}{digits}0")
        self.assertEqual(parse_ring(f"0 0; 0 1; {10 ** 999}")[0][3], 10 ** 999)
        self.assert_refused(parse_ring, f"0 0; 0 1; {10 ** 1000}")
        self.assertEqual(parse_ring(f"1/{10 ** 999} 0; 0 1; 1")[0][0], (1, 0, 10 ** 999))
        self.assert_refused(parse_ring, f"1/{10 ** 1000} 0; 0 1; 1")
        self.assert_refused(parse_map, "1 0 0 1 0 " + "0" * 1000)
        self.assert_refused(parse_map, "1 0 0 1 0 " + "1" * 5000)

    def test_values_that_are_no_strings(self):
        for value in OTHER_VALUES + [(5, 1, 2), TRIANGLE.vertices(), [((-2, 0, 1), 0, 2, 1)], (1, 0, 0, 1, 0, 0), ["0 0"]]:
            for parse in PARSERS:
                self.assert_refused(parse, value)

    def test_arguments_by_name(self):
        self.assertEqual(format_point(point=(5, 1, 2)), "5/2 1/2")
        self.assertEqual(format_polygon(polygon=TRIANGLE), "0 0, 1 0, 0 1")
        self.assertEqual(format_ring(rows=[((-2, 0, 1), 0, 2, 1)]), "-2 0; 0 2; 1")
        self.assertEqual(format_map(mapping=(0, -1, 1, 0, 0, 0)), "0 -1 1 0 0 0")
        self.assertEqual(parse_point(text="5/2 1/2"), (5, 1, 2))
        self.assertEqual(parse_polygon(text="0 0, 1 0, 0 1"), TRIANGLE)
        self.assertEqual(parse_ring(text="-2 0; 0 2; 1"), [((-2, 0, 1), 0, 2, 1)])
        self.assertEqual(parse_map(text="1 0 0 1 0 -7"), (1, 0, 0, 1, 0, -7))

    def test_interface_stands_in_its_file(self):
        for function in PARSERS + (format_point, format_polygon, format_ring, format_map):
            self.assertEqual(function.__module__, formats.__name__)
