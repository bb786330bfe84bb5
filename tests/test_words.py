import copy
import random
import unittest

from outleap import words
from outleap.cells import cell_bounds
from outleap.errors import InvalidWord, Undefined
from outleap.words import itinerary, word_bounds, word_cell
from tests import oracle
from tests.nearby import NEAR
from tests.values import FAR, MODULUS_HUGE, OTHER_VALUES, POLYGONS, SQUARE, TRIANGLE

ALL = POLYGONS + [MODULUS_HUGE]


class ItineraryTest(unittest.TestCase):
    def assert_undefined(self, expected, polygon, point, steps):
        with self.assertRaises(Undefined) as caught:
            itinerary(polygon, point, steps)
        self.assertEqual(caught.exception.steps, expected)

    def test_example_of_the_document(self):
        self.assertEqual(itinerary(TRIANGLE, (1, 1, 1), 4), [2, 0, 1, 2])

    def test_no_steps(self):
        for point in ((5, 1, 2), (-2, 0, 1), (FAR, FAR, 1)):
            self.assertEqual(itinerary(SQUARE, point, 0), [])

    def test_200_steps(self):
        for number, polygon in enumerate(ALL):
            for reach in (100, 1000, FAR):
                for point in oracle.random_points(number, polygon, 3, reach, (7, 999983)):
                    used = oracle.path(polygon, point, 200)[0]
                    self.assertEqual(itinerary(polygon, point, len(used)), used)
                    if len(used) < 200:
                        self.assert_undefined(len(used), polygon, point, 200)

    def test_orbits_that_end(self):
        lengths = set()
        for polygon, point, closed, before, used, points in NEAR:
            after = len(used) - before
            if not closed and after < 200:
                lengths.add(after)
                self.assertEqual(itinerary(polygon, point, after), used[before:])
                self.assert_undefined(after, polygon, point, after + 1)
                self.assert_undefined(after, polygon, point, 200)
        self.assertGreaterEqual(lengths, {0, 1, 2, 3})

    def test_closed_orbits(self):
        for polygon, point, closed, before, used, points in NEAR[::5]:
            if closed:
                self.assertEqual(itinerary(polygon, point, 200), (used * 200)[:200])

    def test_a_returned_list_is_new(self):
        result = itinerary(TRIANGLE, (1, 1, 1), 4)
        self.assertIs(type(result), list)
        result.clear()
        self.assertEqual(itinerary(TRIANGLE, (1, 1, 1), 4), [2, 0, 1, 2])


class WordBoundsTest(unittest.TestCase):
    def setUp(self):
        self.kinds = {"empty": 0, "bounded": 0, "unbounded": 0}

    def assert_as_clipped(self, polygon, word):
        expected = oracle.bounds_of_region(polygon, oracle.region(polygon, word))
        found = word_bounds(polygon, word)
        self.assertEqual(found, expected, (polygon.vertices(), word))
        if found is None:
            self.kinds["empty"] += 1
        elif any(None in row for row in found):
            self.kinds["unbounded"] += 1
        else:
            self.kinds["bounded"] += 1

    def test_examples_of_the_document(self):
        expected = [((1, 0), None, None), ((0, 1), None, (0, 1)), ((-1, 1), None, (-1, 1))]
        self.assertEqual(word_bounds(TRIANGLE, [2]), expected)
        self.assertIsNone(word_bounds(TRIANGLE, [0, 0]))

    def test_words_of_one_number(self):
        for polygon in ALL:
            for vertex in range(len(polygon)):
                self.assert_as_clipped(polygon, [vertex])
        self.assertEqual(self.kinds["empty"], 0)
        self.assertEqual(self.kinds["bounded"], 0)

    def test_all_short_words(self):
        for polygon in ALL:
            size = len(polygon)
            for number in range(size ** 2):
                self.assert_as_clipped(polygon, [number % size, number // size])
            if size < 5:
                for number in range(size ** 3):
                    self.assert_as_clipped(polygon, [number % size, number // size % size, number // size ** 2])
        self.assertGreater(self.kinds["empty"], 50)
        self.assertGreater(self.kinds["unbounded"], 50)
        self.assertGreater(self.kinds["bounded"], 10)

    def test_words_of_points(self):
        source = random.Random(1)
        for number, polygon in enumerate(ALL):
            for reach in (70, 300, 10 ** 6):
                for point in oracle.random_points(number, polygon, 4, reach, (2, 3, 7)):
                    word = oracle.path(polygon, point, source.choice((2, 3, 4, 5, 8, 20, 50, 100, 200)))[0]
                    if word:
                        self.assert_as_clipped(polygon, word)
                        self.assertIsNotNone(word_bounds(polygon, word))
        self.assertGreater(self.kinds["bounded"], 10)
        self.assertGreater(self.kinds["unbounded"], 10)

    def test_words_of_200_numbers(self):
        for number, polygon in enumerate(ALL):
            for point in oracle.random_points(number, polygon, 2, 5000, (7, 999983)):
                word = oracle.path(polygon, point, 200)[0]
                if len(word) == 200:
                    self.assert_as_clipped(polygon, word)
                    changed = word[:199] + [(word[199] + 1) % len(polygon)]
                    self.assert_as_clipped(polygon, changed)
        self.assertGreater(self.kinds["bounded"] + self.kinds["unbounded"], 10)
        self.assertIsNone(word_bounds(SQUARE, [0] * 200))

    def test_changed_words_of_points(self):
        source = random.Random(2)
        for number, polygon in enumerate(POLYGONS):
            for point in oracle.random_points(number, polygon, 30, 12, (1, 2, 3)):
                word = oracle.path(polygon, point, source.randint(2, 9))[0]
                if word:
                    word[source.randrange(len(word))] = source.randrange(len(polygon))
                    self.assert_as_clipped(polygon, word)
        self.assertGreater(min(self.kinds.values()), 10)

    def test_points_of_the_region(self):
        for polygon in POLYGONS:
            for point in oracle.points_around(polygon, 8, (1, 3), 3):
                word = oracle.path(polygon, point, 6)[0]
                x, y, d = point
                if word:
                    for e, low, high in word_bounds(polygon, word):
                        value = oracle.cross(e, (x, y))
                        self.assertTrue(low is None or low[0] * d < value * low[1])
                        self.assertTrue(high is None or value * high[1] < high[0] * d)

    def test_bounds_that_are_fractions(self):
        found = 0
        for number, polygon in enumerate(POLYGONS):
            for point in oracle.random_points(number, polygon, 20, 9, (3, 7)):
                rows = word_bounds(polygon, oracle.path(polygon, point, 9)[0] or [0])
                found += any(end is not None and end[1] > 1 for row in rows or [] for end in row[1:])
        self.assertGreater(found, 5)


class WordCellTest(unittest.TestCase):
    def test_examples_of_the_document(self):
        self.assertEqual(word_cell(TRIANGLE, [2, 0, 1]), [
            ((1, 0), (0, 1), (2, 1)), ((0, 1), (-2, 1), (0, 1)), ((-1, 1), (-3, 1), (-1, 1))])
        self.assertIsNone(word_cell(TRIANGLE, [2, 0]))

    def test_words_of_periodic_points(self):
        parities = set()
        for polygon, point, closed, before, used, points in NEAR:
            if closed and len(used) <= 200:
                parities.add(len(used) % 2)
                self.assertEqual(word_cell(polygon, used), cell_bounds(polygon, point))
        self.assertEqual(parities, {0, 1})

    def test_repeated_words(self):
        for word in ([2, 0, 1], [2, 0, 1] * 2, [2, 0, 1] * 3, [2, 0, 1] * 66):
            self.assertEqual(word_cell(TRIANGLE, word), cell_bounds(TRIANGLE, (1, 1, 1)))
        used = oracle.whole(SQUARE, (5, 1, 2))[2]
        for times in (1, 2, 3, 25):
            self.assertEqual(word_cell(SQUARE, used * times), cell_bounds(SQUARE, (5, 1, 2)))

    def test_half_of_a_flipped_period_is_enough(self):
        closed, before, used, points = oracle.whole(TRIANGLE, (5, 4, 4))
        self.assertEqual(len(used), 6)
        self.assertEqual(word_cell(TRIANGLE, used[:3]), cell_bounds(TRIANGLE, (5, 4, 4)))

    def test_words_that_lead_away(self):
        found = 0
        for polygon, point, closed, before, used, points in NEAR[::3]:
            if closed:
                for size in (1, 2, 3, 4, len(used) - 1, len(used) + 1, len(used) + 2):
                    word = (used * 3)[:size]
                    if 1 <= size <= 200 and not self.can_repeat(word, used):
                        found += word_bounds(polygon, word) is not None
                        self.assert_cell_of(polygon, word)
        self.assertGreater(found, 100)

    def can_repeat(self, word, used):
        size = len(word) * len(used)
        return (word * len(used))[:size] == (used * len(word))[:size]

    def assert_cell_of(self, polygon, word):
        # Twice the word is a translation. If it moves points, they do not come back, and cannot repeat it for ever.
        expected = None
        if self.translation(polygon, word * 2) == (0, 0):
            expected = oracle.bounds_of_region(polygon, oracle.region(polygon, word * 2))
        self.assertEqual(word_cell(polygon, word), expected, (polygon.vertices(), word))

    def translation(self, polygon, word):
        x = y = 0
        for vertex in word:
            a, b = polygon.vertices()[vertex]
            x, y = 2 * a - x, 2 * b - y
        return (x, y)

    def test_random_words(self):
        source = random.Random(3)
        for polygon in POLYGONS:
            for at in range(60):
                word = [source.randrange(len(polygon)) for step in range(source.randint(1, 7))]
                self.assert_cell_of(polygon, word)

    def test_words_of_one_number_and_of_200(self):
        for vertex in range(4):
            self.assertIsNone(word_cell(SQUARE, [vertex]))
        self.assertIsNone(word_cell(SQUARE, [0] * 200))
        used = oracle.whole(SQUARE, (5, 1, 2))[2]
        self.assertIsNotNone(word_cell(SQUARE, used * 25))

    def test_any_modulus(self):
        self.assertIsNone(word_cell(MODULUS_HUGE, [0, 2]))
        self.assertIsNotNone(word_bounds(MODULUS_HUGE, itinerary(MODULUS_HUGE, (1001, 1, 7), 200)))

    def test_words_that_move_no_point_but_have_no_region(self):
        self.assertIsNone(word_cell(SQUARE, [0, 0]))
        self.assertIsNone(word_cell(SQUARE, [0, 1, 1, 0]))
        self.assertIsNone(word_cell(TRIANGLE, [0, 2, 1]))


class InvalidWordTest(unittest.TestCase):
    def assert_refused(self, polygon, value):
        for function in (word_bounds, word_cell):
            with self.subTest(repr(value)[:60]):
                before = copy.deepcopy(value)
                with self.assertRaises(InvalidWord) as caught:
                    function(polygon, value)
                self.assertIs(caught.exception.value, value)
                self.assertEqual(value, before)

    def test_lengths(self):
        for value in ([], (), [0] * 201, (0,) * 201, [0] * 1000):
            self.assert_refused(SQUARE, value)
        for value in ([0], (0,), [0] * 200, (0,) * 200):
            word_bounds(SQUARE, value)
            word_cell(SQUARE, value)

    def test_numbers_that_are_no_vertex(self):
        for polygon in POLYGONS:
            size = len(polygon)
            for number in (-1, -size, size, size + 1, 6, 10 ** 999, -(10 ** 999)):
                for value in ([number], [0, number], [0, 1, number, 2], (number, 1)):
                    self.assert_refused(polygon, value)
            word_bounds(polygon, [size - 1])

    def test_items_that_are_no_integers(self):
        for item in (True, False, None, "0", "", [0], (0,), {}, [], ()):
            for value in ([item], (item,), [0, item], [0, 1, item]):
                self.assert_refused(SQUARE, value)

    def test_other_values(self):
        for value in OTHER_VALUES:
            if value not in ([1], (1,)):
                self.assert_refused(SQUARE, value)
        for value in ({0: 1}, {0: 0, 1: 1}, "012", "0", 0, 1, 2):
            self.assert_refused(SQUARE, value)

    def test_wrong_items_beside_a_wrong_length(self):
        self.assert_refused(SQUARE, [True] * 201)
        self.assert_refused(SQUARE, ["0"] * 200)


class InterfaceTest(unittest.TestCase):
    def test_lists_and_tuples(self):
        for word in ([2], [2, 0, 1], [0, 0], [2, 0], [2, 0, 1, 2]):
            self.assertEqual(word_bounds(TRIANGLE, tuple(word)), word_bounds(TRIANGLE, word))
            self.assertEqual(word_cell(TRIANGLE, tuple(word)), word_cell(TRIANGLE, word))

    def test_arguments_by_name(self):
        self.assertEqual(itinerary(steps=4, point=(1, 1, 1), polygon=TRIANGLE), [2, 0, 1, 2])
        self.assertEqual(word_bounds(word=[2], polygon=TRIANGLE), word_bounds(TRIANGLE, [2]))
        self.assertEqual(word_cell(word=[2, 0, 1], polygon=TRIANGLE), word_cell(TRIANGLE, [2, 0, 1]))

    def test_arguments_stay_as_they_were(self):
        word = [2, 0, 1]
        word_bounds(TRIANGLE, word)
        word_cell(TRIANGLE, word)
        self.assertEqual(word, [2, 0, 1])
        self.assertEqual(TRIANGLE.vertices(), [(0, 0), (1, 0), (0, 1)])

    def test_a_returned_list_is_new(self):
        for function in (word_bounds, word_cell):
            expected = list(function(TRIANGLE, [2, 0, 1]))
            result = function(TRIANGLE, [2, 0, 1])
            self.assertIs(type(result), list)
            self.assertEqual({type(row) for row in result}, {tuple})
            result.clear()
            self.assertEqual(function(TRIANGLE, [2, 0, 1]), expected)

    def test_interface_stands_in_its_file(self):
        for function in (itinerary, word_bounds, word_cell):
            self.assertEqual(function.__module__, words.__name__)
