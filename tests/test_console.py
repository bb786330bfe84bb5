import copy
import unittest

from outleap import console as module, errors
from outleap.console import Console
from outleap.orbits import period_of
from outleap.rings import ring_index
from tests.values import FAR, FINE, MODULUS_4100, OTHER_VALUES, TRIANGLE

MODULUS_4100_TEXT = "0 0, 41 0, 0 25"
NAMES = ("ann", "bob", "zed", "a", "abcdefgh")


def state(console):
    """Everything that lines tell about a console."""
    found = [console.execute("names"), console.execute("modulus")]
    for name in found[0].split(" "):
        if found[0] != "none":
            found.append(console.execute(f"where {name}"))
    return found


class ConsoleTestCase(unittest.TestCase):
    def started(self, *lines):
        console = Console()
        for line in lines:
            self.assertEqual(console.execute(line), "ok", line)
        return console

    def assert_raises(self, kind, value, console, line):
        before, passed = state(console), copy.deepcopy(line)
        with self.subTest(repr(line)[:80]):
            with self.assertRaises(kind) as caught:
                console.execute(line)
            self.assertIs(type(caught.exception), kind)
            if kind is not errors.EmptyHistory:
                (found,) = vars(caught.exception).values()
                self.assertEqual(found, value)
                self.assertIs(type(found), type(value))
            self.assertEqual(state(console), before)
            self.assertEqual(line, passed)

    def assert_no_command(self, console, line):
        self.assert_raises(errors.CommandError, line, console, line)


class CommandTest(ConsoleTestCase):
    def test_examples_of_the_document(self):
        self.assertEqual(Console().execute("names"), "none")
        console = Console()
        self.assertEqual(console.execute("place ann 1 1"), "ok")
        self.assertEqual(console.execute("period ann"), "3")

    def test_each_command(self):
        console = Console()
        lines = [
            ("modulus", "4"), ("names", "none"), ("place bob 5/2 1/2", "ok"), ("place ann 1 1", "ok"), ("names", "ann bob"),
            ("where bob", "5/2 1/2"), ("where ann", "1 1"), ("period ann", "3"), ("ring ann", "1"), ("advance ann 2", "ok"),
            ("where ann", "1 -1"), ("advance ann -1", "ok"), ("where ann", "-1 1"), ("transform 0 -1 1 0 0 0", "ok"),
            ("where ann", "-1 -1"), ("where bob", "-1/2 5/2"), ("polygon 0 0, 1 0, 1 1, 0 1", "ok"), ("modulus", "4"),
            ("period ann", "undefined"), ("undo", "ok"), ("period ann", "3"), ("remove ann", "ok"), ("names", "bob"),
            ("undo", "ok"), ("names", "ann bob"), ("place ann -7 0", "ok"), ("where ann", "-7 0"), ("ring ann", "4")]
        for line, expected in lines:
            result = console.execute(line)
            self.assertEqual((line, result), (line, expected))
            self.assertIs(type(result), str)

    def test_undo_to_the_beginning(self):
        console = self.started("place ann 1 1", "advance ann 2", "transform 1 0 0 1 5 5", "remove ann")
        for at in range(4):
            self.assertEqual(console.execute("undo"), "ok")
        self.assertEqual(state(console), state(Console()))
        self.assert_raises(errors.EmptyHistory, None, console, "undo")

    def test_great_numbers(self):
        console = self.started(f"place ann {FAR - 1} 5/7", f"place bob 1/{FINE} {-FAR}")
        self.assertEqual(console.execute("where ann"), f"{FAR - 1} 5/7")
        self.assertEqual(console.execute("period ann"), str(period_of(TRIANGLE, (7 * FAR - 7, 5, 7))))
        self.assertEqual(console.execute("ring ann"), str(ring_index(TRIANGLE, (7 * FAR - 7, 5, 7))))
        for steps in (10 ** 40, -(10 ** 40)):
            self.assertEqual(console.execute(f"advance ann {steps}"), "ok")
        self.assertEqual(console.execute("where ann"), f"{FAR - 1} 5/7")

    def test_points_beyond_the_bounds(self):
        console = self.started(f"place ann {FAR - 1} 5/7", f"place bob {FAR} 1/3")
        answers = [console.execute(f"{query} {name}") for query in ("period", "ring") for name in ("ann", "bob")]
        self.assertEqual([answer == "undefined" for answer in answers], [False, True, False, False])
        self.assertEqual(console.execute("transform 7 3 2 1 0 0"), "ok")
        self.assertEqual(console.execute("where ann"), f"{49 * FAR - 34}/7 {14 * FAR - 9}/7")
        self.assertEqual(console.execute("where bob"), f"{7 * FAR + 1} {6 * FAR + 1}/3")
        found = [console.execute(f"{query} {name}") for query in ("period", "ring") for name in ("ann", "bob")]
        self.assertEqual(found, answers)
        for steps in (10 ** 40, -(10 ** 40)):
            self.assertEqual(console.execute(f"advance ann {steps}"), "ok")
        self.assertEqual(console.execute("where ann"), f"{49 * FAR - 34}/7 {14 * FAR - 9}/7")
        for at in range(5):
            self.assertEqual(console.execute("undo"), "ok")
        self.assertEqual(console.execute("names"), "none")

    def test_undefined(self):
        console = self.started("place ann -1 0")
        self.assertEqual(console.execute("period ann"), "undefined")

    def test_ring(self):
        console = self.started("place ann 3 0", "polygon 0 0, 1 0, 1 1, 0 1")
        self.assertEqual(console.execute("ring ann"), "2")
        self.assertEqual(console.execute("place ann 2 0"), "ok")
        self.assertEqual(console.execute("ring ann"), "1")

    def test_two_consoles(self):
        first, second = self.started("place ann 1 1"), Console()
        self.assertEqual(second.execute("names"), "none")
        second.execute("polygon 0 0, 1 0, 1 1, 0 1")
        self.assertEqual(first.execute("period ann"), "3")

    def test_argument_by_name(self):
        self.assertEqual(Console().execute(line="names"), "none")

    def test_interface_stands_in_its_file(self):
        self.assertEqual(Console.__module__, module.__name__)
        self.assertIn("execute", vars(Console))


class ErrorTest(ConsoleTestCase):
    def test_values_that_are_no_strings(self):
        console = self.started("place ann 1 1")
        for value in OTHER_VALUES + [["names"], ("names",), {"names": 1}, ["place", "ann", "1", "1"]]:
            self.assert_no_command(console, value)

    def test_other_words(self):
        console = self.started("place ann 1 1")
        for line in ("", " ", "  ", "name", "Names", "NAMES", "history", "len", "enclosed 1", "shared_orbits", "position ann",
                     "transform_all 1 0 0 1 0 0", "replace_polygon 0 0, 1 0, 0 1", "quit", "names\n", "\nnames", "names\nnames",
                     "undo\n", "~", "ann", "place", "1 1", "__init__", "None", "ok"):
            self.assert_no_command(console, line)

    def test_blanks(self):
        console = self.started("place ann 1 1")
        for line in ("names", "modulus", "undo", "where ann", "period ann", "ring ann", "remove ann", "place bob 1 1",
                     "advance ann 1", "transform 1 0 0 1 0 0", "polygon 0 0, 1 0, 0 1"):
            self.assert_no_command(console, line + " ")
            self.assert_no_command(console, " " + line)
            self.assert_no_command(console, line + "\n")
            self.assert_no_command(console, "\n" + line)
            for at, character in enumerate(line):
                if character == " ":
                    self.assert_no_command(console, line[:at] + "  " + line[at + 1:])
                    self.assert_no_command(console, line[:at] + "\n" + line[at + 1:])
                    self.assert_no_command(console, line[:at])
                    self.assert_no_command(console, line[:at + 1])

    def test_further_words(self):
        console = self.started("place ann 1 1")
        for line in ("names ann", "modulus 4", "undo 1", "undo undo", "where ann bob", "period ann 1", "ring ann 1", "remove ann ann",
                     "place ann 1 1 1", "advance ann 1 1", "transform 1 0 0 1 0 0 0", "polygon 0 0, 1 0, 0 1 1"):
            self.assert_no_command(console, line)

    def test_names_that_are_none(self):
        console = self.started("place ann 1 1")
        for name in ("Ann", "ANN", "a1", "abcdefghi", "an-n", "an_n", "1", "-", "ann,", "ann\n", "{", "~"):
            for line in (f"place {name} 1 1", f"advance {name} 1", f"remove {name}", f"where {name}", f"period {name}",
                         f"ring {name}"):
                self.assert_no_command(console, line)

    def test_numbers_that_are_none(self):
        console = self.started("place ann 1 1")
        for number in ("01", "-0", "+1", "1.0", "1/2", "2/1", "one", "--1", "-", "1e3", "1_0", str(FAR + 1), str(-FAR - 1),
                       "1" * 1001, "1" * 1000, "0x1", "1,"):
            self.assert_no_command(console, f"advance ann {number}")
            # A number that is none comes before a name that is not in use.
            self.assert_no_command(console, f"advance zed {number}")

    def test_points_that_are_none(self):
        console = self.started("place ann 1 1")
        for point in ("1", "1 a", "01 1", "1 -0", "2/2 1", "1/1 1", "4/2 1", f"{FAR + 1} 0", f"1/{FINE + 1} 1", "1, 1", "1/0 1"):
            self.assert_no_command(console, f"place ann {point}")
            self.assert_no_command(console, f"place bob {point}")

    def test_maps_that_are_none(self):
        console = self.started("place ann 1 1")
        for mapping in ("1 0 0 1 0", "2 0 0 1 0 0", "1 1 1 1 0 0", "1, 0, 0, 1, 0, 0", "1 0 0 1 0 -0", "01 0 0 1 0 0", "a b c d e f"):
            self.assert_no_command(console, f"transform {mapping}")

    def test_polygons_that_are_none(self):
        console = self.started("place ann 1 1")
        for polygon in ("0 0, 1 0", "0 0, 0 1, 1 0", "1 0, 0 1, 0 0", "0 0,1 0,0 1", "0 0, 1 0, 0 61", "0 0, 1 0, 2 0", "0 0, 1 0, 0 01",
                        "0 0; 1 0; 0 1"):
            self.assert_no_command(console, f"polygon {polygon}")

    def test_names_that_are_not_in_use(self):
        for console in (Console(), self.started(f"polygon {MODULUS_4100_TEXT}")):
            for name in NAMES:
                for line in (f"advance {name} 1", f"remove {name}", f"where {name}", f"period {name}", f"ring {name}"):
                    self.assert_raises(errors.UnknownName, name, console, line)

    def test_errors_of_the_actions(self):
        console = self.started("place ann 1 1", "place bob -1 0")
        self.assert_raises(errors.NotOutside, (0, 0, 1), console, "place ann 0 0")
        self.assert_raises(errors.NotOutside, (1, 1, 3), console, "place cy 1/3 1/3")
        self.assert_raises(errors.Undefined, 0, console, "advance bob 1")
        self.assert_raises(errors.InvalidPolygon, "vertices", console, "transform 1 0 0 1 60 0")
        self.assert_raises(errors.InvalidPolygon, "vertices", console, f"transform 1 {10 ** 999} 0 1 0 0")
        self.assert_raises(errors.NotOutside, (1, 1, 1), console, "polygon -60 -60, 60 -60, 60 60, -60 60")
        self.assert_raises(errors.NotOutside, (-1, 0, 1), console, "polygon -2 -2, 0 -2, 0 2")

    def test_modulus(self):
        console = self.started("place ann -1 -1", f"polygon {MODULUS_4100_TEXT}")
        self.assertEqual(console.execute("modulus"), "4100")
        for line in ("advance ann 0", "advance ann 1", "period ann", "ring ann"):
            self.assert_raises(errors.ModulusTooLarge, 4100, console, line)
        self.assertEqual(console.execute("where ann"), "-1 -1")
        console = self.started("polygon -60 0, -1 -60, 60 -59, 59 60, -59 60")
        self.assertEqual(console.execute("modulus"), "32536949086770240")
        self.assertEqual(MODULUS_4100.vertices(), [(0, 0), (41, 0), (0, 25)])
