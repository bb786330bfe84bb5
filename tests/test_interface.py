"""Every name of the document's interface, with its file and its parameters."""

import importlib
import inspect
import unittest

from outleap.console import Console
from outleap.polygons import Polygon
from outleap.simulation import Simulation

FUNCTIONS = {
    "points": {"is_point": "value", "is_outside": "polygon point"},
    "reflections": {
        "tangent_vertex": "polygon point", "reflect": "polygon point", "reflect_back": "polygon point",
        "trace": "polygon point steps"},
    "segments": {"segments_of": "polygon point limit"},
    "modulus": {"directions": "polygon", "far_shifts": "polygon", "modulus": "polygon"},
    "orbits": {
        "point_after": "polygon point steps", "period_of": "polygon point", "dead_ends": "polygon point",
        "steps_between": "polygon first second"},
    "orbit_stats": {
        "vertex_counts": "polygon point steps", "furthest": "polygon point a b",
        "meeting_time": "polygon first second first_rate second_rate"},
    "cells": {
        "cell_bounds": "polygon point", "cell_vertices": "polygon point", "cell_area": "polygon point",
        "same_cell": "polygon point other", "cell_period": "polygon point", "cell_center": "polygon point"},
    "words": {"itinerary": "polygon point steps", "word_bounds": "polygon word", "word_cell": "polygon word"},
    "rings": {
        "ring_chain": "polygon index", "ring_index": "polygon point", "ring_contains": "polygon index point",
        "ring_extent": "polygon index"},
    "ring_check": {"check_ring": "polygon point value"},
    "regions": {
        "region_contains": "polygon index point", "region_area": "polygon index", "cells_in_region": "polygon index"},
    "affine": {
        "transform": "polygon mapping", "transform_point": "mapping point", "inverse": "mapping",
        "compose": "first second", "scale": "polygon factor", "scale_point": "point factor"},
    "symmetries": {"half_turn": "polygon center", "symmetries": "polygon"},
    "formats": {
        "format_point": "point", "format_polygon": "polygon", "format_ring": "rows", "format_map": "mapping",
        "parse_point": "text", "parse_polygon": "text", "parse_ring": "text", "parse_map": "text"},
}
# Parameters of methods; those behind a star are keyword-only, with the default value None.
METHODS = {
    Polygon: {"__init__": "vertices", "vertices": "", "__len__": "", "__eq__": "other"},
    Simulation: {
        "__init__": "polygon", "__len__": "", "place": "name point", "advance": "name steps", "remove": "name",
        "transform_all": "mapping", "replace_polygon": "vertices", "undo": "", "polygon_at": "*version",
        "names": "*version", "position": "name *version", "period": "name *version", "enclosed": "index *version",
        "shared_orbits": "*version", "history": ""},
    Console: {"__init__": "", "execute": "line"},
}
FILES = {Polygon: "outleap.polygons", Simulation: "outleap.simulation", Console: "outleap.console"}


def parameters(function):
    found = []
    for parameter in inspect.signature(function).parameters.values():
        if parameter.kind is parameter.KEYWORD_ONLY:
            found.append(f"*{parameter.name}")
            assert parameter.default is None
        else:
            assert parameter.kind is parameter.POSITIONAL_OR_KEYWORD
            assert parameter.default is parameter.empty
            found.append(parameter.name)
    return found


class InterfaceTest(unittest.TestCase):
    def test_functions(self):
        for file, functions in FUNCTIONS.items():
            for name, expected in functions.items():
                with self.subTest(name):
                    function = getattr(importlib.import_module(f"outleap.{file}"), name)
                    self.assertTrue(inspect.isfunction(function))
                    self.assertEqual(function.__module__, f"outleap.{file}")
                    self.assertEqual(parameters(function), expected.split())

    def test_methods_stand_in_their_classes(self):
        for kind, methods in METHODS.items():
            self.assertEqual(kind.__module__, FILES[kind])
            self.assertEqual(kind.__bases__, (object,))
            for name, expected in methods.items():
                with self.subTest(f"{kind.__name__} {name}"):
                    self.assertIn(name, vars(kind))
                    self.assertEqual(parameters(vars(kind)[name])[1:], expected.split())
