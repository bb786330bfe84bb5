"""Convex sets that are cut out by lines along the edges of a polygon."""

from outleap.arithmetic import cross, edges_of, fraction, is_below
from outleap.modulus import directions


def edge_sides(corners, turns):
    """Return (at, along) for each edge: the index of its direction, and -1 if the edge runs against it, else 1."""
    found = []
    for start, end in edges_of(corners):
        x, y = end[0] - start[0], end[1] - start[1]
        parallel = [cross(turn, (x, y)) == 0 for turn in turns]
        along = 1 if y > 0 or (y == 0 and x > 0) else -1
        found.append((parallel.index(True), along))
    return found


def upper_bounds(turns, at, lows, highs):
    """Return all upper bounds, as fractions, that one or two of the lines set for the direction number at.

    The least of these bounds is tight, since at most two edges of a convex polygon decide how far it reaches in a
    direction. With highs and lows exchanged, the result is all lower bounds.
    """
    found = []
    if highs[at] is not None:
        found.append((highs[at], 1))
    for i in range(len(turns)):
        for j in range(i + 1, len(turns)):
            if at != i and at != j:
                # The direction is a times the one number i plus b times the one number j, but for a positive divisor.
                a = cross(turns[at], turns[j])
                b = cross(turns[i], turns[at])
                first = highs[i] if a > 0 else lows[i]
                second = highs[j] if b > 0 else lows[j]
                if first is not None and second is not None:
                    found.append(fraction(a * first + b * second, cross(turns[i], turns[j])))
    return found


def outermost(fractions, sign):
    """Return the greatest fraction of a list if the sign is 1, the least one if it is -1, or None if there is none."""
    found = None
    for one in fractions:
        if found is None or sign * (one[0] * found[1] - found[0] * one[1]) > 0:
            found = one
    return found


class Strips:
    """The points whose cross products with the directions of a polygon lie strictly between two integers each.

    A bound that is not there is None.
    """

    __slots__ = ("corners", "turns", "sides", "lows", "highs")

    def __init__(self, polygon):
        self.corners = polygon.vertices()
        self.turns = directions(polygon)
        self.sides = edge_sides(self.corners, self.turns)
        self.lows = [None for turn in self.turns]
        self.highs = [None for turn in self.turns]

    def keep_users(self, vertex, sign, offset):
        """Keep only the points p for which sign * p + offset has this right tangent vertex; the sign is 1 or -1."""
        x, y = self.corners[vertex]
        # Such points are to the right of the edge before the vertex, and to the left of the edge after it.
        for edge, side in ((vertex - 1, -1), (vertex, 1)):
            at, along = self.sides[edge]
            bound = sign * cross(self.turns[at], (x - offset[0], y - offset[1]))
            if side * along * sign > 0:
                self.keep_above(at, bound)
            else:
                self.keep_below(at, bound)

    def keep_above(self, at, bound):
        if self.lows[at] is None or self.lows[at] < bound:
            self.lows[at] = bound

    def keep_below(self, at, bound):
        if self.highs[at] is None or self.highs[at] > bound:
            self.highs[at] = bound

    def tight_bounds(self):
        """Return the list of (direction, infimum, supremum) over the set, or None if it is empty."""
        rows = []
        for at, turn in enumerate(self.turns):
            low = outermost(upper_bounds(self.turns, at, self.highs, self.lows), 1)
            high = outermost(upper_bounds(self.turns, at, self.lows, self.highs), -1)
            # If lines exclude all points, then three of them do, and two of these contradict the third one.
            if low is not None and high is not None and not is_below(low, high):
                return None
            rows.append((turn, low, high))
        return rows
