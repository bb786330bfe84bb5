"""Orbits as rows of equal translations."""

from outleap.arithmetic import pair_shift
from outleap.checks import require_count, require_outside
from outleap.runs import runs_from
from outleap.tangents import FORWARD

MOST_SEGMENTS = 200


def add_pairs(rows, shift, count):
    """Add pairs of reflections to the last row if it has the same shift, and otherwise as a row of their own."""
    if len(rows) > 0 and rows[-1][0] == shift:
        count += rows.pop()[1]
    rows.append((shift, count))


def segments_of(polygon, point, limit):
    """Return the list of the first segments (shift, count) of the orbit."""
    require_outside(polygon, point)
    require_count(limit, 1, MOST_SEGMENTS)
    corners = polygon.vertices()
    rows = []
    for taken, x, y, first, second, count in runs_from(corners, point, FORWARD):
        if second is None:
            break
        shift = pair_shift(corners[first], corners[second])
        # The last row is complete only when a pair with another shift follows.
        if len(rows) == limit and rows[-1][0] != shift:
            break
        add_pairs(rows, shift, count)
    return rows
