"""Points on orbits, however many reflections away."""

from outleap.checks import LARGEST_COUNT, require_count, require_modulus, require_outside
from outleap.courses import Course


def advanced(polygon, place, steps):
    """Return what point_after does, for a point outside the polygon that may exceed the bounds."""
    require_count(steps, -LARGEST_COUNT, LARGEST_COUNT)
    require_modulus(polygon)
    course = Course(polygon, place)
    return course.point_at(course.place_after(steps))


def point_after(polygon, point, steps):
    """Return the point after that many reflections; negative numbers use backward reflections."""
    require_outside(polygon, point)
    return advanced(polygon, point, steps)


def cycle_of(polygon, place):
    """Return what period_of does, for a point outside the polygon that may exceed the bounds."""
    require_modulus(polygon)
    return Course(polygon, place).cycle()


def period_of(polygon, point):
    """Return the least number of reflections from 1 on that move the point to itself, or None if its orbit ends."""
    require_outside(polygon, point)
    return cycle_of(polygon, point)


def dead_ends(polygon, point):
    """Return how many reflections can be performed backward and forward, or (None, None) for a periodic point."""
    require_outside(polygon, point)
    require_modulus(polygon)
    course = Course(polygon, point)
    if not course.ending:
        return (None, None)
    return (course.before, course.length - course.before)


def steps_between(polygon, first, second):
    """Return how many reflections lead from the first point to the second one, or None."""
    require_outside(polygon, first)
    require_outside(polygon, second)
    require_modulus(polygon)
    course = Course(polygon, first)
    place = course.place_of(second)
    if place is None:
        return None
    return place - course.before
