"""Orbits in runs, so that a long way takes a few divisions.

A run is a tuple (taken, x, y, first, second, count). After `taken` reflections the point is at (x / d, y / d), and
`count` pairs of reflections follow, each through the vertices number `first` and then `second`. Where an orbit ends,
its last run has the count 1 and the second vertex None, and the first one is None too if not even that reflection is
defined.
"""

from outleap.arithmetic import pair_shift
from outleap.tangents import FORWARD, edge_rows, reflected, tangent


def scaled_shift(corners, d, first, second):
    """Return the shift of a pair of vertices, in units of 1 / d."""
    x, y = pair_shift(corners[first], corners[second])
    return (d * x, d * y)


def negated(row):
    a, b, c = row
    return (-a, -b, -c)


def opposite(row, corner, d):
    """Return the row whose value at a point is minus the value of the given row at the point's image."""
    a, b, c = row
    x, y = corner
    return (a, b, 2 * d * (a * y - b * x) - c)


def conditions(rows, corners, d, first, second):
    """Return rows (a, b, c); the pair of vertices is used as long as every a * y - b * x - c is positive."""
    corner = corners[first]
    return [
        negated(rows[first - 1]),
        rows[first],
        opposite(rows[second - 1], corner, d),
        negated(opposite(rows[second], corner, d)),
    ]


def falling(rows, corners, d, first, second):
    """Return the conditions that a pair of reflections brings closer to failing, as (a, b, c, fall)."""
    x, y = scaled_shift(corners, d, first, second)
    found = []
    for a, b, c in conditions(rows, corners, d, first, second):
        fall = b * x - a * y
        if fall > 0:
            found.append((a, b, c, fall))
    return found


def runs_from(corners, point, way):
    """Yield the runs from a point outside the polygon on; without an end if the orbit is closed."""
    x, y, d = point
    rows = edge_rows(corners, d, way)
    limits = {}
    taken = 0
    while True:
        first = tangent(rows, x, y)
        second = None
        if first is not None:
            turned = reflected((x, y, d), corners[first])
            second = tangent(rows, turned[0], turned[1])
        if second is None:
            yield (taken, x, y, first, second, 1)
            return
        if (first, second) not in limits:
            limits[(first, second)] = falling(rows, corners, d, first, second)
        count = 1 + min([(a * y - b * x - c - 1) // fall for a, b, c, fall in limits[(first, second)]])
        yield (taken, x, y, first, second, count)
        taken += 2 * count
        shift = scaled_shift(corners, d, first, second)
        x += count * shift[0]
        y += count * shift[1]


def times_to_cross(gap, shift):
    """Return the number from 0 on by which the shift is multiplied to give the gap, or None."""
    if gap == (0, 0):
        return 0
    if shift == (0, 0):
        return None
    at = 0 if shift[0] != 0 else 1
    times = gap[at] // shift[at]
    if times < 0 or (times * shift[0], times * shift[1]) != gap:
        return None
    return times


def runs_until_return(corners, point):
    """Yield the runs from a point on, until the orbit ends or pairs of reflections are back at the point."""
    home_x, home_y, d = point
    home = None
    for taken, x, y, first, second, count in runs_from(corners, point, FORWARD):
        if home is None:
            home = (first, second)
        elif home == (first, second):
            times = times_to_cross((home_x - x, home_y - y), scaled_shift(corners, d, first, second))
            if times is not None and times < count:
                if times > 0:
                    yield (taken, x, y, first, second, times)
                return
        yield (taken, x, y, first, second, count)
