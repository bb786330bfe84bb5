"""Whole orbits, in both directions."""

from outleap.errors import Undefined
from outleap.runs import runs_from, runs_until_return, scaled_shift, times_to_cross
from outleap.tangents import BACKWARD, reflected


def run_end(corners, d, run):
    """Return the number of reflections and the point at which the last run of an orbit that ends stops."""
    taken, x, y, first, second, count = run
    if first is None:
        return (taken, (x, y, d))
    return (taken + 1, reflected((x, y, d), corners[first]))


def backward_end(corners, point):
    """Return how many backward reflections lead to the first point of an orbit that ends, and that point."""
    runs = list(runs_from(corners, point, BACKWARD))
    return run_end(corners, point[2], runs[-1])


class Course:
    """The whole orbit of a point outside a polygon.

    The places on it are numbered from 0, where the runs begin: at the point itself if the orbit is closed, and
    otherwise at the first point of the orbit. The point has the place `before`. The runs of a closed orbit lead once
    around it, or twice if the number of reflections is odd, since they consist of pairs.
    """

    __slots__ = ("corners", "d", "runs", "before", "ending", "length")

    def __init__(self, polygon, point):
        self.corners = polygon.vertices()
        self.d = point[2]
        self.runs = list(runs_until_return(self.corners, point))
        self.before = 0
        self.ending = self.runs[-1][4] is None
        if self.ending:
            self.before, start = backward_end(self.corners, point)
            self.runs = list(runs_until_return(self.corners, start))
            self.length = run_end(self.corners, self.d, self.runs[-1])[0]
        else:
            self.length = self.runs[-1][0] + 2 * self.runs[-1][5]

    def shift_of(self, run):
        """Return the shift of one pair of reflections of a run, in units of 1 / d."""
        if run[4] is None:
            return (0, 0)
        return scaled_shift(self.corners, self.d, run[3], run[4])

    def place_after(self, steps):
        """Return the place that many reflections after the point."""
        place = self.before + steps
        if not self.ending:
            return place % self.length
        if place < 0:
            raise Undefined(self.before)
        if place > self.length:
            raise Undefined(self.length - self.before)
        return place

    def point_at(self, place):
        """Return the point at a place from 0 to the length."""
        reached = [run for run in self.runs if run[0] <= place]
        taken, x, y, first, second, count = reached[-1]
        pairs = (place - taken) // 2
        shift = self.shift_of(reached[-1])
        found = (x + pairs * shift[0], y + pairs * shift[1], self.d)
        if (place - taken) % 2 == 0:
            return found
        return reflected(found, self.corners[first])

    def place_of(self, point):
        """Return the first place of a point on the orbit, or None."""
        if point[2] != self.d:
            return None
        for run in self.runs:
            place = self.place_in_run(run, point)
            if place is not None:
                return place
        return None

    def place_in_run(self, run, point):
        """Return the first place of a point within a run, or None."""
        taken, x, y, first, second, count = run
        shift = self.shift_of(run)
        found = []
        times = times_to_cross((point[0] - x, point[1] - y), shift)
        if times is not None and times < count:
            found.append(taken + 2 * times)
        if first is not None:
            # Points between the two reflections of a pair are images of points before it.
            source = reflected(point, self.corners[first])
            times = times_to_cross((source[0] - x, source[1] - y), shift)
            if times is not None and times < count:
                found.append(taken + 2 * times + 1)
        return min(found, default=None)

    def cycle(self):
        """Return the number of reflections of a closed orbit until the point returns, or None if it ends."""
        if self.ending:
            return None
        half = self.length // 2
        # An odd number of reflections that moves a point to itself occurs twice in the pairs.
        if half % 2 == 1 and self.point_at(half) == self.point_at(0):
            return half
        return self.length
