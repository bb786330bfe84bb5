import copy
import itertools
import random
import unittest

from outleap import errors, simulation as module
from outleap.affine import transform
from outleap.modulus import modulus
from outleap.orbits import period_of, point_after
from outleap.points import is_point
from outleap.polygons import Polygon
from outleap.rings import ring_index
from outleap.simulation import Simulation
from tests import oracle
from tests.simulation_model import Expected, Model, image
from tests.test_affine import MAPS, NO_MAPS
from tests.test_points import NO_POINTS
from tests.values import (
    FAR, HEXAGON, KITE, MODULUS_4096, MODULUS_4100, MODULUS_HUGE, NO_INTEGERS, OTHER_VALUES, POLYGONS, SQUARE, TRIANGLE)

# Small enough to leave room for points around it.
MODULUS_7040 = Polygon([(-2, 0), (0, -2), (2, -1), (1, 2), (0, 2)])
TURN = (0, -1, 1, 0, 0, 0)
NO_NAMES = [value for value in OTHER_VALUES if value not in ("a", "abc")] + [
    "Ann", "ann1", "ann ", " ann", "ann_", "an-n", "abcdefghi", "a" * 1000, "~", " ", "\n", "ann\n", "A", "{", "`", "0",
    ["ann"], ("ann",), {"ann": 1}]
NO_VERSIONS = [value for value in NO_INTEGERS if value is not None] + [-1, -2, 10 ** 999, -(10 ** 999), [0], (0,), "0", {}]
QUERIES = {
    "polygon_at": (), "names": (), "position": ("ann",), "period": ("ann",), "enclosed": (1,), "shared_orbits": ()}


def started(polygon=TRIANGLE, **points):
    found = Simulation(polygon)
    for name, point in points.items():
        found.place(name, point)
    return found


def answers(simulation):
    """Everything that the queries tell of all versions."""
    found = [len(simulation), simulation.history()]
    for version in [None, *range(len(simulation) + 1)]:
        names = simulation.names(version=version)
        found.append((simulation.polygon_at(version=version).vertices(), names))
        found.append([simulation.position(name, version=version) for name in names])
    return found


class SimulationTestCase(unittest.TestCase):
    def assert_raises(self, kind, value, simulation, action, *given, **named):
        """The action raises the error with this value and changes nothing."""
        before, passed = answers(simulation), copy.deepcopy(given)
        with self.subTest(f"{action} {given!r:.80}"):
            with self.assertRaises(kind) as caught:
                getattr(simulation, action)(*given, **named)
            self.assertIs(type(caught.exception), kind)
            if kind is not errors.EmptyHistory:
                (found,) = vars(caught.exception).values()
                self.assertEqual(found, value)
                self.assertIs(type(found), type(value))
            self.assertEqual(answers(simulation), before)
            self.assertEqual(given, passed)


class ExampleTest(SimulationTestCase):
    def test_examples_of_the_document(self):
        self.assertEqual(len(Simulation(TRIANGLE)), 0)
        s = started(ann=(1, 1, 1))
        self.assertEqual(s.names(), ["ann"])
        s.advance("ann", 2)
        self.assertEqual(s.position("ann"), (1, -1, 1))
        self.assert_raises(errors.UnknownName, "ann", Simulation(TRIANGLE), "remove", "ann")
        s = started(ann=(1, 1, 1))
        s.transform_all((0, -1, 1, 0, 0, 0))
        self.assertEqual(s.position("ann"), (-1, 1, 1))
        s = started(ann=(1, 1, 1))
        self.assert_raises(errors.NotOutside, (1, 1, 1), s, "replace_polygon", [(0, 0), (2, 0), (0, 2)])
        s.undo()
        self.assertEqual(s.names(), [])
        self.assertEqual(Simulation(TRIANGLE).polygon_at().vertices(), [(0, 0), (1, 0), (0, 1)])

    def test_examples_of_the_queries(self):
        s = started(ann=(1, 1, 1))
        self.assertEqual(s.names(version=0), [])
        self.assertEqual(s.position("ann", version=1), (1, 1, 1))
        self.assertEqual(s.period("ann"), 3)
        self.assertEqual(s.enclosed(1), ["ann"])
        self.assertEqual(s.history(), [("place", "ann", (1, 1, 1))])
        s.place("bob", (-1, 1, 1))
        self.assertEqual(s.shared_orbits(), [("ann", "bob")])


class ModelTest(SimulationTestCase):
    """Random actions, valid ones and others, against a simulation that works step by step."""

    def random_action(self, source, model):
        names = sorted(model.versions[-1][1]) + source.choice([[], ["zed"], ["", None]])
        name = source.choice(names) if names else "ann"
        kind = source.choice(["place", "place", "place", "advance", "advance", "advance", "remove", "map", "map", "new", "undo"])
        if kind == "place":
            point = oracle.lowest(source.randint(-9, 9), source.randint(-9, 9), source.choice([1, 2, 3]))
            wrong = source.random() < 0.1
            return ("place", source.choice(["ann", "bob", "cy", "dora", "eve", "Bad", ""]), [1, 1, 1] if wrong else point)
        if kind == "advance":
            return ("advance", name, source.choice([0, 1, 2, -1, -2, 7, -13, 30, True, None, 10 ** 40 + 1]))
        if kind == "remove":
            return ("remove", name)
        if kind == "map":
            return ("transform_all", source.choice(MAPS + [(1, 0, 0, 1, 0, 0), [1, 0, 0, 1, 0, 0], (1, 1, 1, 1, 0, 0)]))
        if kind == "new":
            polygon = source.choice(POLYGONS + [MODULUS_7040, MODULUS_7040, MODULUS_HUGE])
            corners = [(x - 2, y + 1) if source.random() < 0.02 else (x, y) for x, y in polygon.vertices()]
            return ("replace_polygon", source.choice([corners, tuple(corners), corners[:2]]))
        return ("undo",)

    def perform(self, simulation, model, action):
        name, *given = action
        try:
            getattr(model, name)(*given)
        except Expected as expected:
            self.assert_raises(expected.kind, *(expected.given or (None,)), simulation, name, *given)
            return expected.kind.__name__
        self.assertIs(getattr(simulation, name)(*given), None)
        return name

    def assert_same(self, expected, simulation, query, *given, **named):
        try:
            value = expected()
        except Expected as error:
            self.assert_raises(error.kind, *error.given, simulation, query, *given, **named)
        else:
            self.assertEqual(getattr(simulation, query)(*given, **named), value)

    def compare(self, simulation, model, versions):
        self.assertEqual(len(simulation), len(model.done))
        self.assertEqual(simulation.history(), model.done)
        for version in versions:
            at = -1 if version is None else version
            polygon, points = model.versions[at]
            self.assertEqual(simulation.polygon_at(version=version), polygon)
            self.assertEqual(simulation.names(version=version), sorted(points))
            for name in sorted(points) + ["zed", None]:
                for query in ("position", "period"):
                    def expected():
                        return getattr(model, query)(name, at)
                    self.assert_same(expected, simulation, query, name, version=version)
            for index in (1, 2, 0, True):
                self.assert_same(lambda: model.enclosed(index, at), simulation, "enclosed", index, version=version)
            self.assert_same(lambda: model.shared_orbits(at), simulation, "shared_orbits", version=version)

    def test_random_actions(self):
        source = random.Random(8)
        kinds = set()
        for at in range(30):
            polygon = source.choice(POLYGONS[:2] + POLYGONS[4:7])
            simulation, model = Simulation(polygon), Model(polygon)
            for step in range(45):
                kinds.add(self.perform(simulation, model, self.random_action(source, model)))
                if step % 15 == 7:
                    self.compare(simulation, model, [None, source.randint(0, len(simulation))])
            self.compare(simulation, model, [None, *range(0, len(simulation) + 1, 4)])
        self.assertGreaterEqual(kinds, {
            "place", "advance", "remove", "transform_all", "replace_polygon", "undo", "InvalidName", "InvalidPoint",
            "NotOutside", "UnknownName", "InvalidCount", "InvalidMap", "InvalidPolygon", "Undefined", "ModulusTooLarge"})

    def test_performing_a_history_anew(self):
        source = random.Random(9)
        for at in range(20):
            polygon = source.choice(POLYGONS[:2] + POLYGONS[4:7])
            simulation, model = Simulation(polygon), Model(polygon)
            for step in range(30):
                self.perform(simulation, model, self.random_action(source, model))
            other = Simulation(polygon)
            for name, *given in simulation.history():
                self.assertIs(getattr(other, name)(*given), None)
            self.assertEqual(answers(other), answers(simulation))
            if modulus(polygon) <= 4096:
                self.assertEqual(other.enclosed(2, version=0), simulation.enclosed(2, version=0))


class ActionTest(SimulationTestCase):
    def test_place(self):
        s = started(ann=(1, 1, 1), abcdefgh=(5, 1, 2), z=(FAR, -FAR, 1))
        self.assertEqual(s.names(), ["abcdefgh", "ann", "z"])
        s.place("ann", (-3, 7, 5))
        self.assertEqual(s.position("ann"), (-3, 7, 5))
        self.assertEqual(s.position("ann", version=3), (1, 1, 1))
        self.assertEqual(len(s), 4)

    def test_names_that_are_none(self):
        s = started(ann=(1, 1, 1))
        for name in NO_NAMES:
            self.assert_raises(errors.InvalidName, name, s, "place", name, (1, 1, 1))
            self.assert_raises(errors.InvalidName, name, s, "place", name, "wrong")
            self.assert_raises(errors.InvalidName, name, s, "place", name, (0, 0, 1))

    def test_places_that_are_none(self):
        s = started(ann=(1, 1, 1))
        for point in NO_POINTS:
            self.assert_raises(errors.InvalidPoint, point, s, "place", "ann", point)
            self.assert_raises(errors.InvalidPoint, point, s, "place", "new", point)
        for point in ((0, 0, 1), (1, 1, 2), (1, 1, 3), (0, 1, 2)):
            self.assert_raises(errors.NotOutside, point, s, "place", "ann", point)

    def test_unknown_names(self):
        s = started(ann=(1, 1, 1), bob=(2, 1, 1))
        s.remove("bob")
        for name in NO_NAMES + ["bob", "an", "annn", "zed"]:
            self.assert_raises(errors.UnknownName, name, s, "remove", name)
            self.assert_raises(errors.UnknownName, name, s, "advance", name, 1)
            self.assert_raises(errors.UnknownName, name, s, "advance", name, "wrong")
            self.assert_raises(errors.UnknownName, name, s, "position", name)
            self.assert_raises(errors.UnknownName, name, s, "period", name)
        self.assert_raises(errors.UnknownName, "ann", s, "position", "ann", version=0)
        self.assertEqual(s.position("bob", version=2), (2, 1, 1))

    def test_advance(self):
        for polygon in POLYGONS:
            for point in oracle.random_points(1, polygon, 3, 9, (2, 3)):
                s = started(polygon, ann=point)
                for steps in (0, 1, 5, -3, 10, -40):
                    used, path = oracle.path(polygon, s.position("ann"), abs(steps), 1 if steps > 0 else -1)
                    if len(used) == abs(steps):
                        self.assertIs(s.advance("ann", steps), None)
                        self.assertEqual(s.position("ann"), path[-1])
                    else:
                        self.assert_raises(errors.Undefined, len(used), s, "advance", "ann", steps)

    def test_advance_moves_one_point_only(self):
        s = started(SQUARE, ann=(5, 1, 2), bob=(5, 1, 2))
        s.advance("bob", 10 ** 40)
        self.assertEqual([s.position("ann"), s.position("bob")], [(5, 1, 2), point_after(SQUARE, (5, 1, 2), 10 ** 40)])

    def test_errors_of_advance(self):
        s = started(SQUARE, ann=(2, 1, 1))
        for steps in NO_INTEGERS + [10 ** 40 + 1, -(10 ** 40) - 1, 10 ** 999]:
            self.assert_raises(errors.InvalidCount, steps, s, "advance", "ann", steps)
        self.assert_raises(errors.Undefined, 0, s, "advance", "ann", 1)
        self.assert_raises(errors.Undefined, 1, s, "advance", "ann", -2)
        s = started(MODULUS_4100, ann=(2001, 1, 7))
        self.assert_raises(errors.InvalidCount, True, s, "advance", "ann", True)
        for steps in (0, 1, -1):
            self.assert_raises(errors.ModulusTooLarge, 4100, s, "advance", "ann", steps)

    def test_transform_all(self):
        for mapping in MAPS:
            s = started(TRIANGLE, ann=(1, 1, 1), bob=(5, -7, 3))
            self.assertIs(s.transform_all(mapping), None)
            self.assertEqual(s.polygon_at(), transform(TRIANGLE, mapping))
            self.assertEqual(s.position("ann"), image(mapping, (1, 1, 1)))
            self.assertEqual(s.position("bob"), image(mapping, (5, -7, 3)))
            self.assertEqual(s.polygon_at(version=2), TRIANGLE)

    def test_errors_of_transform_all(self):
        for s in (started(ann=(1, 1, 1)), Simulation(SQUARE)):
            for value in NO_MAPS:
                self.assert_raises(errors.InvalidMap, value, s, "transform_all", value)
            for shift in ((61, 0), (0, -61), (10 ** 999, 0)):
                self.assert_raises(errors.InvalidPolygon, "vertices", s, "transform_all", (1, 0, 0, 1, *shift))

    def test_replace_polygon(self):
        s = started(ann=(7, 7, 2), bob=(-1, 0, 1))
        for polygon in (KITE, SQUARE, HEXAGON, MODULUS_4100):
            corners = polygon.vertices()
            given = corners[1:] + corners[:1]
            if all(not oracle.is_inside(polygon, s.position(name)) for name in s.names()):
                self.assertIs(s.replace_polygon(given), None)
                self.assertEqual(s.polygon_at(), polygon)
                self.assertEqual(s.history()[-1], ("replace_polygon", tuple(given)))
                s.replace_polygon(tuple(given))
                self.assertEqual(s.history()[-1], ("replace_polygon", tuple(given)))
        self.assertGreaterEqual(len(s), 6)

    def test_errors_of_replace_polygon(self):
        s = started(zoe=(1, 1, 1), bob=(3, 3, 2), ann=(9, 9, 1))
        for value in OTHER_VALUES + [[(0, 0), (1, 0)], [(0, 0), (1, 0), (0, 61)], [(0, 0), (1, 0), (0, True)], [[0, 0]] * 3]:
            self.assert_raises(errors.InvalidPolygon, "vertices", s, "replace_polygon", value)
        self.assert_raises(errors.InvalidPolygon, "order", s, "replace_polygon", [(0, 0), (0, 5), (5, 0)])
        # The first point by name, not by time.
        self.assert_raises(errors.NotOutside, (3, 3, 2), s, "replace_polygon", [(0, 0), (5, 0), (0, 5)])
        self.assert_raises(errors.NotOutside, (9, 9, 1), s, "replace_polygon", [(0, 0), (60, 0), (0, 60)])
        self.assert_raises(errors.NotOutside, (1, 1, 1), s, "replace_polygon", [(0, 0), (2, 0), (0, 2)])

    def test_undo(self):
        s = Simulation(TRIANGLE)
        self.assert_raises(errors.EmptyHistory, None, s, "undo")
        states = [answers(s)]
        actions = [
            ("place", "ann", (1, 1, 1)), ("place", "bob", (3, 1, 2)), ("advance", "ann", 5), ("transform_all", TURN),
            ("replace_polygon", [(0, 0), (-1, 0), (0, -1)]), ("remove", "bob"), ("place", "ann", (5, 5, 3))]
        for name, *given in actions:
            getattr(s, name)(*given)
            states.append(answers(s))
        for at in range(len(actions) - 1, -1, -1):
            self.assert_raises(errors.UnknownName, "zed", s, "remove", "zed")
            self.assertIs(s.undo(), None)
            self.assertEqual(len(s), at)
            self.assertEqual(answers(s), states[at])
        self.assert_raises(errors.EmptyHistory, None, s, "undo")
        s.place("cy", (1, 1, 1))
        self.assertEqual(s.history(), [("place", "cy", (1, 1, 1))])
        s.undo()
        self.assert_raises(errors.EmptyHistory, None, s, "undo")

    def test_undo_between_actions(self):
        s = started(SQUARE, ann=(5, 1, 2))
        s.advance("ann", 1)
        s.undo()
        s.advance("ann", 2)
        self.assertEqual(s.history(), [("place", "ann", (5, 1, 2)), ("advance", "ann", 2)])
        self.assertEqual(s.position("ann"), (1, -3, 2))
        self.assertEqual(len(s), 2)


class BeyondBoundsTest(SimulationTestCase):
    MAPPING = (3, 5, 1, 2, 0, -1)

    def moved(self):
        """A simulation whose points a map has moved beyond the bounds, and the points before that."""
        points = {"ann": (FAR, FAR - 1, 1), "bob": (FAR - 2, -FAR, 1), "cy": (7 * FAR - 1, 7 * FAR, 7), "dan": (1, 1, 1)}
        points["eve"] = point_after(TRIANGLE, (-FAR // 2 + 5, -FAR // 2, 1), 2 * 10 ** 39)
        points["fay"] = point_after(TRIANGLE, points["eve"], 10 ** 39 + 1)
        s = started(TRIANGLE, **points)
        s.transform_all(self.MAPPING)
        self.assertGreater(sum(not is_point(s.position(name)) for name in s.names()), 3)
        return s, points

    def test_position_period_and_rings(self):
        s, points = self.moved()
        for name, point in points.items():
            self.assertEqual(s.position(name), image(self.MAPPING, point))
            self.assertEqual(s.period(name), period_of(TRIANGLE, point))
            index = ring_index(TRIANGLE, point)
            self.assertIn(name, s.enclosed(index))
            self.assertIs(index == 1 or name not in s.enclosed(index - 1), True)
            self.assertEqual(s.enclosed(index), s.enclosed(index, version=len(points)))
        self.assertEqual(s.shared_orbits(), [("eve", "fay")])

    def test_advance(self):
        s, points = self.moved()
        for name, point in points.items():
            if period_of(TRIANGLE, point) is not None:
                for steps in (1, 10 ** 40, -7, 10 ** 39 + 3):
                    s.advance(name, steps)
                    point = point_after_any(point, steps)
                    self.assertEqual(s.position(name), image(self.MAPPING, point))

    def test_orbits_that_end(self):
        s = started(SQUARE, ann=(-FAR, 0, 1))
        s.transform_all((5, 2, 2, 1, 0, 0))
        self.assertEqual(s.position("ann"), (-5 * FAR, -2 * FAR, 1))
        self.assertIsNone(s.period("ann"))
        self.assert_raises(errors.Undefined, 0, s, "advance", "ann", 1)
        s.advance("ann", -1)
        s.advance("ann", 1)
        self.assertEqual(s.position("ann"), (-5 * FAR, -2 * FAR, 1))

    def test_all_other_actions(self):
        s, points = self.moved()
        s.replace_polygon([(0, 0), (1, 0), (1, 1), (0, 1)])
        for at in range(5):
            s.transform_all((2, 1, 1, 1, 0, 0))
            s.replace_polygon([(0, 0), (1, 0), (1, 1), (0, 1)])
        self.assertGreater(abs(s.position("ann")[0]), 100 * FAR)
        self.assertEqual(s.names(), sorted(points))
        for name in s.names():
            s.period(name)
            s.advance(name, 0)
        self.assertEqual(s.enclosed(10 ** 60), sorted(points))
        s.remove("ann")
        s.place("bob", (5, 5, 1))
        for at in range(len(s)):
            s.undo()
        self.assertEqual(len(s), 0)

    def test_points_beyond_the_bounds_that_are_not_outside(self):
        # Its denominator is that of a point still, and it is in the new polygon.
        s = started(TRIANGLE, ann=(3, 3, 2))
        s.transform_all((1, 0, 0, 1, -1, -1))
        self.assert_raises(errors.NotOutside, (1, 1, 2), s, "replace_polygon", [(0, 0), (1, 0), (1, 1), (0, 1)])


def point_after_any(point, steps):
    """point_after around the triangle, for points a little beyond the bounds too."""
    if is_point(point):
        return point_after(TRIANGLE, point, steps)
    (back,) = oracle.path(TRIANGLE, point, 1)[1][1:]
    return point_after(TRIANGLE, back, steps - 1)


class QueryTest(SimulationTestCase):
    def test_every_version(self):
        s = started(ann=(1, 1, 1), bob=(-1, 1, 1), cy=(100, 3, 7))
        s.advance("ann", 1)
        s.transform_all(TURN)
        s.replace_polygon([(0, 0), (1, 0), (1, 1), (0, 1)])
        s.remove("bob")
        expected = [[], ["ann"], ["ann", "bob"], ["ann", "bob", "cy"]] + [["ann", "bob", "cy"]] * 3 + [["ann", "cy"]]
        self.assertEqual([s.names(version=version) for version in range(8)], expected)
        self.assertEqual([len(s.polygon_at(version=version)) for version in range(8)], [3] * 6 + [4] * 2)
        self.assertEqual(s.position("ann", version=3), (1, 1, 1))
        self.assertEqual(s.position("ann", version=4), (-1, 1, 1))
        self.assertEqual(s.position("ann", version=5), (-1, -1, 1))
        self.assertEqual(s.shared_orbits(version=1), [])
        self.assertEqual(s.shared_orbits(version=2), [("ann", "bob")])
        self.assertEqual(s.shared_orbits(version=4), [("ann", "bob")])
        self.assertEqual(s.enclosed(1, version=3), ["ann", "bob"])
        self.assertEqual(s.enclosed(100, version=3), ["ann", "bob", "cy"])
        self.assertEqual(s.period("ann", version=5), 3)
        for query, given in QUERIES.items():
            self.assertEqual(getattr(s, query)(*given, version=None), getattr(s, query)(*given))
            self.assertEqual(getattr(s, query)(*given, version=7), getattr(s, query)(*given))

    def test_values_that_are_no_versions(self):
        for s in (started(ann=(1, 1, 1), bob=(5, 1, 2)), Simulation(TRIANGLE), Simulation(MODULUS_HUGE)):
            for version in NO_VERSIONS + [len(s) + 1, len(s) + 2]:
                for query, given in QUERIES.items():
                    self.assert_raises(errors.InvalidVersion, version, s, query, *given, version=version)
                # Before every other error.
                for query in ("position", "period", "enclosed"):
                    for wrong in ("zed", None, 0, []):
                        self.assert_raises(errors.InvalidVersion, version, s, query, wrong, version=version)

    def test_versions_that_an_undo_takes_back(self):
        s = started(ann=(1, 1, 1), bob=(5, 1, 2))
        s.names(version=2)
        s.undo()
        for query, given in QUERIES.items():
            self.assert_raises(errors.InvalidVersion, 2, s, query, *given, version=2)
            getattr(s, query)(*given, version=1)

    def test_versions_by_keyword_only(self):
        s = started(ann=(1, 1, 1))
        for query, given in QUERIES.items():
            with self.assertRaises(TypeError):
                getattr(s, query)(*given, 0)

    def test_modulus(self):
        for s in (Simulation(MODULUS_4100), started(MODULUS_4100, ann=(2001, 1, 7))):
            for index in (1, 0, "wrong", True):
                self.assert_raises(errors.ModulusTooLarge, 4100, s, "enclosed", index)
            self.assert_raises(errors.ModulusTooLarge, 4100, s, "shared_orbits")
            self.assert_raises(errors.UnknownName, "zed", s, "period", "zed")
        self.assert_raises(errors.ModulusTooLarge, 4100, s, "period", "ann")
        for polygon in MODULUS_4096:
            s = started(polygon, ann=(2001, 1, 7), bob=point_after(polygon, (2001, 1, 7), 1))
            self.assertEqual(s.shared_orbits(), [("ann", "bob")])
            self.assertEqual(s.enclosed(10 ** 9), ["ann", "bob"])

    def test_indexes_that_are_none(self):
        for s in (Simulation(TRIANGLE), started(ann=(1, 1, 1))):
            for index in NO_INTEGERS + [0, -1, -(10 ** 999)]:
                self.assert_raises(errors.InvalidRing, index, s, "enclosed", index)

    def test_the_modulus_of_a_version_counts(self):
        s = started(TRIANGLE, ann=(2001, 1, 7))
        s.replace_polygon(MODULUS_4100.vertices())
        self.assert_raises(errors.ModulusTooLarge, 4100, s, "shared_orbits")
        self.assert_raises(errors.ModulusTooLarge, 4100, s, "enclosed", 1)
        self.assert_raises(errors.ModulusTooLarge, 4100, s, "period", "ann")
        self.assertEqual(s.shared_orbits(version=1), [])
        self.assertEqual(s.enclosed(10 ** 9, version=1), ["ann"])

    def test_shared_orbits(self):
        points = {"ann": (5, 1, 2), "bob": (1, 1, 1), "cy": (-1, 3, 2), "dan": (2, 1, 1), "eve": (5, 1, 2), "fay": (0, -1, 1)}
        points = {name: point for name, point in points.items() if not oracle.is_inside(SQUARE, point)}
        s = started(SQUARE, **points)
        expected = [("ann", "cy"), ("ann", "eve"), ("cy", "eve"), ("dan", "fay")]
        self.assertEqual(s.shared_orbits(), expected)
        self.assertEqual({type(pair) for pair in s.shared_orbits()}, {tuple})

    def test_periods_of_orbits_that_end(self):
        s = started(SQUARE, ann=(2, 1, 1))
        self.assertIsNone(s.period("ann"))


class IndependenceTest(SimulationTestCase):
    def test_history(self):
        s = started(ann=(1, 1, 1))
        s.advance("ann", -3)
        s.transform_all(TURN)
        s.replace_polygon([(0, 0), (-1, 0), (-1, -1)])
        s.remove("ann")
        self.assertEqual(s.history(), [
            ("place", "ann", (1, 1, 1)), ("advance", "ann", -3), ("transform_all", TURN),
            ("replace_polygon", ((0, 0), (-1, 0), (-1, -1))), ("remove", "ann")])
        self.assertEqual({type(action) for action in s.history()}, {tuple})
        self.assertIs(type(s.history()[3][1]), tuple)

    def test_history_by_keyword(self):
        s = Simulation(polygon=TRIANGLE)
        s.place(point=(1, 1, 1), name="ann")
        s.advance(steps=2, name="ann")
        s.transform_all(mapping=TURN)
        s.replace_polygon(vertices=[(-1, 0), (0, 0), (0, 1)])
        s.remove(name="ann")
        self.assertEqual(s.history(), [
            ("place", "ann", (1, 1, 1)), ("advance", "ann", 2), ("transform_all", TURN),
            ("replace_polygon", ((-1, 0), (0, 0), (0, 1))), ("remove", "ann")])
        self.assertEqual(s.position(version=1, name="ann"), (1, 1, 1))
        self.assertEqual(s.period(version=1, name="ann"), 3)
        self.assertEqual(s.enclosed(version=1, index=1), ["ann"])

    def test_changing_what_was_passed_or_returned(self):
        vertices = [(0, 0), (1, 0), (1, 1), (0, 1)]
        s = started(ann=(5, 1, 2), bob=(-1, 3, 2))
        s.replace_polygon(vertices)
        before = answers(s)
        pairs = s.shared_orbits()
        vertices.clear()
        for result in (s.names(), s.history(), s.enclosed(5), s.shared_orbits(), s.polygon_at().vertices()):
            self.assertIs(type(result), list)
            self.assertNotEqual(result, [])
            result.clear()
        s.names(version=1).append("zed")
        self.assertEqual(answers(s), before)
        self.assertEqual(s.shared_orbits(), pairs)

    def test_two_simulations(self):
        first, second = Simulation(TRIANGLE), Simulation(TRIANGLE)
        first.place("ann", (1, 1, 1))
        self.assertEqual(second.names(), [])
        second.place("ann", (5, 1, 2))
        second.advance("ann", 1)
        self.assertEqual(first.position("ann"), (1, 1, 1))
        first.transform_all(TURN)
        self.assertEqual(second.polygon_at(), TRIANGLE)
        first.undo()
        self.assertEqual((len(first), len(second)), (1, 2))
        self.assertEqual(TRIANGLE.vertices(), [(0, 0), (1, 0), (0, 1)])

    def test_polygons(self):
        polygon = Polygon([(0, 0), (1, 0), (0, 1)])
        s = Simulation(polygon)
        self.assertEqual(s.polygon_at(), polygon)
        self.assertIs(type(s.polygon_at()), Polygon)

    def test_many_names(self):
        names = ["".join(letters) for letters in itertools.product("abc", repeat=3)]
        s = started(SQUARE, **{name: (2 * at + 5, 1, 2) for at, name in enumerate(reversed(names))})
        self.assertEqual(s.names(), names)
        self.assertEqual(s.enclosed(10 ** 6), names)

    def test_interface_stands_in_its_file(self):
        self.assertEqual(Simulation.__module__, module.__name__)
        for name in (
                "__len__ place advance remove transform_all replace_polygon undo polygon_at names position period enclosed "
                "shared_orbits history").split():
            self.assertIn(name, vars(Simulation))
