"""Values that several test files need."""

from outleap.polygons import Polygon

SQUARE = Polygon([(0, 0), (1, 0), (1, 1), (0, 1)])
TRIANGLE = Polygon([(0, 0), (1, 0), (0, 1)])
KITE = Polygon([(0, 0), (4, 0), (3, 3), (0, 4)])
QUADRILATERAL = Polygon([(-2, -1), (2, 0), (2, 1), (-1, 2)])
TRAPEZOID = Polygon([(-1, -1), (2, -1), (1, 1), (0, 1)])
PENTAGON = Polygon([(-1, 2), (1, -1), (3, 1), (3, 3), (0, 3)])
HEXAGON = Polygon([(0, 0), (1, 0), (2, 1), (2, 2), (1, 2), (0, 1)])
SKEW_HEXAGON = Polygon([(-2, 0), (-1, -2), (2, -2), (2, 1), (1, 2), (-2, 2)])

FIVE_DIRECTIONS = Polygon([(-2, 1), (-1, -1), (1, 1), (-1, 2), (-2, 2)])
SIX_DIRECTIONS = Polygon([(-1, -1), (1, -2), (2, -2), (1, 0), (0, 1), (-1, 0)])

# All with a modulus of at most 4096, with and without parallel edges.
POLYGONS = [SQUARE, TRIANGLE, KITE, QUADRILATERAL, TRAPEZOID, PENTAGON, HEXAGON, SKEW_HEXAGON]

# With two to six directions, and with moduli from 4 to 1760.
RING_POLYGONS = POLYGONS + [FIVE_DIRECTIONS, SIX_DIRECTIONS]

MODULUS_4096 = [Polygon([(0, 0), (32, 0), (32, 32), (0, 32)]), Polygon([(-3, -18), (17, -2), (-2, 34)])]
# The least modulus of a triangle that is too large, of a parallelogram, and one far beyond.
MODULUS_4100 = Polygon([(0, 0), (41, 0), (0, 25)])
MODULUS_4100_TOO = Polygon([(0, 0), (41, 0), (41, 25), (0, 25)])
MODULUS_HUGE = Polygon([(-60, 0), (-1, -60), (60, -59), (59, 60), (-59, 60)])

FAR = 10 ** 40
FINE = 10 ** 6

# Values of every kind, none of which is a polygon's list of vertices, a vertex or a point.
OTHER_VALUES = [
    None, True, False, 0, 1, -1, 10 ** 999, -(10 ** 999), "", "a", "(1, 1, 1)", "abc", "a\nb",
    [], (), {}, [1], (1,), [None], (None, None, None), {1: 2}, {"x": 1, "y": 2, "d": 1}, {0: 1, 1: 1, 2: 1},
    [[]], ((),), [{}], ((1, 1, 1),), [(1, 1, 1)], ("1", "1", "1"), "111",
]

NO_INTEGERS = [value for value in OTHER_VALUES if isinstance(value, bool) or not isinstance(value, int)]


def rotations(items):
    return [items[at:] + items[:at] for at in range(len(items))]
