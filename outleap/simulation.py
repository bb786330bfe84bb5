"""Simulations: named points around one polygon, and all their versions."""

from outleap.affine import mapped, transform
from outleap.arithmetic import is_whole
from outleap.checks import require_modulus, require_outside
from outleap.errors import EmptyHistory, InvalidName, InvalidVersion, NotOutside, UnknownName
from outleap.orbit_stats import greatest_point
from outleap.orbits import advanced, cycle_of
from outleap.outlines import outline_of, surrounds
from outleap.points import lies_outside
from outleap.polygons import Polygon
from outleap.rings import ring_chain

LONGEST_NAME = 8


def is_name(value):
    """Return whether any value is a name."""
    if not isinstance(value, str) or len(value) < 1 or len(value) > LONGEST_NAME:
        return False
    return all(["a" <= letter <= "z" for letter in value])


def require_known(points, name):
    """Raise UnknownName unless the value is a name in use."""
    # A value of another kind need not be fit for a look into the dict.
    if not isinstance(name, str) or name not in points:
        raise UnknownName(name)


class Simulation:
    """A polygon with named points, which actions change.

    There is one state (polygon, points by name) for each version. States never change, so they may share their parts,
    and taking back an action is dropping its state. Once placed, points may move beyond the bounds.
    """

    __slots__ = ("states", "actions")

    def __init__(self, polygon):
        self.states = [(polygon, {})]
        self.actions = []

    def __len__(self):
        return len(self.actions)

    def perform(self, action, polygon, points):
        """Add an action and the state to which it leads."""
        self.actions.append(action)
        self.states.append((polygon, points))

    def place(self, name, point):
        """Put a new or an existing name at a point."""
        if not is_name(name):
            raise InvalidName(name)
        polygon, points = self.states[-1]
        require_outside(polygon, point)
        self.perform(("place", name, point), polygon, {**points, name: point})

    def advance(self, name, steps):
        """Perform that many reflections of one point."""
        polygon, points = self.states[-1]
        require_known(points, name)
        moved = advanced(polygon, points[name], steps)
        self.perform(("advance", name, steps), polygon, {**points, name: moved})

    def remove(self, name):
        """Delete a name."""
        polygon, points = self.states[-1]
        require_known(points, name)
        kept = {other: points[other] for other in points if other != name}
        self.perform(("remove", name), polygon, kept)

    def transform_all(self, mapping):
        """Apply a map to the polygon and to all points."""
        polygon, points = self.states[-1]
        image = transform(polygon, mapping)
        moved = {name: mapped(mapping, points[name]) for name in points}
        self.perform(("transform_all", mapping), image, moved)

    def replace_polygon(self, vertices):
        """Replace the polygon by the one with these vertices."""
        polygon = Polygon(vertices)
        points = self.states[-1][1]
        for name in sorted(points):
            if not lies_outside(polygon, points[name]):
                raise NotOutside(points[name])
        self.perform(("replace_polygon", tuple(vertices)), polygon, points)

    def undo(self):
        """Take back the last action that is in effect."""
        if len(self.actions) == 0:
            raise EmptyHistory()
        self.actions.pop()
        self.states.pop()

    def state_at(self, version):
        """Return the polygon and the points after the first actions, as many as the version says."""
        if version is None:
            return self.states[-1]
        if not is_whole(version) or version < 0 or version >= len(self.states):
            raise InvalidVersion(version)
        return self.states[version]

    def polygon_at(self, *, version=None):
        """Return the polygon."""
        return self.state_at(version)[0]

    def names(self, *, version=None):
        """Return the ascending list of the names in use."""
        return sorted(self.state_at(version)[1])

    def position(self, name, *, version=None):
        """Return the point with this name."""
        points = self.state_at(version)[1]
        require_known(points, name)
        return points[name]

    def period(self, name, *, version=None):
        """Return the period of the point with this name, or None if its orbit ends."""
        polygon, points = self.state_at(version)
        require_known(points, name)
        return cycle_of(polygon, points[name])

    def enclosed(self, index, *, version=None):
        """Return the ascending list of the names whose points the ring with this index contains."""
        polygon, points = self.state_at(version)
        outline = outline_of(polygon.vertices(), ring_chain(polygon, index))
        return [name for name in sorted(points) if surrounds(outline, points[name])]

    def shared_orbits(self, *, version=None):
        """Return the ascending list of all pairs of names whose points lie on one orbit."""
        polygon, points = self.state_at(version)
        require_modulus(polygon)
        marks = {name: greatest_point(polygon, points[name]) for name in points}
        names = sorted(points)
        return [(name, other) for name in names for other in names if name < other and marks[name] == marks[other]]

    def history(self):
        """Return the list of all actions in effect, each as a tuple of its name and its arguments."""
        return list(self.actions)
