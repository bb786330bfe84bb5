"""Values that several test files need."""

from outleap.polygons import Polygon

SQUARE = Polygon([(0, 0), (1, 0), (1, 1), (0, 1)])
TRIANGLE = Polygon([(0, 0), (1, 0), (0, 1)])

# Values of every kind, none of which is a polygon's list of vertices, a vertex or a point.
OTHER_VALUES = [
    None, True, False, 0, 1, -1, 10 ** 999, -(10 ** 999), "", "a", "(1, 1, 1)", "abc", "a\nb",
    [], (), {}, [1], (1,), [None], (None, None, None), {1: 2}, {"x": 1, "y": 2, "d": 1}, {0: 1, 1: 1, 2: 1},
    [[]], ((),), [{}], ((1, 1, 1),), [(1, 1, 1)], ("1", "1", "1"), "111",
]


def rotations(items):
    return [items[at:] + items[:at] for at in range(len(items))]
