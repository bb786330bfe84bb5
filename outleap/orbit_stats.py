"""Numbers about whole orbits: vertex counts, extreme values and meeting times."""

from outleap.arithmetic import fraction, is_whole, least_multiplier
from outleap.checks import LARGEST_COUNT, require_count, require_modulus, require_outside
from outleap.courses import Course
from outleap.errors import InvalidCoefficient
from outleap.tangents import reflected

LARGEST_RATE = 1000


def uses_before(course, place):
    """Return how often each vertex is used by the reflections from the beginning of a course to a place."""
    counts = [0 for corner in course.corners]
    for taken, x, y, first, second, count in course.runs:
        steps = min(place - taken, 2 * count)
        if steps > 0:
            counts[first] += (steps + 1) // 2
        if steps > 1:
            counts[second] += steps // 2
    return counts


def vertex_counts(polygon, point, steps):
    """Return how often each vertex is used in the next reflections, as a list by vertex number."""
    require_outside(polygon, point)
    require_count(steps, 0, LARGEST_COUNT)
    require_modulus(polygon)
    course = Course(polygon, point)
    last = uses_before(course, course.place_after(steps))
    if course.ending:
        start = uses_before(course, course.before)
        return [high - low for low, high in zip(start, last)]
    rounds = steps // course.length
    whole = uses_before(course, course.length)
    return [rounds * one + rest for one, rest in zip(whole, last)]


def ends_of_run(course, run):
    """Return the pairs (place, point) at both ends of the two straight rows of points of a run."""
    taken, x, y, first, second, count = run
    shift = course.shift_of(run)
    found = []
    for pairs in (0, count - 1):
        point = (x + pairs * shift[0], y + pairs * shift[1], course.d)
        found.append((taken + 2 * pairs, point))
        if first is not None:
            found.append((taken + 2 * pairs + 1, reflected(point, course.corners[first])))
    return found


def greatest_point(polygon, place):
    """Return the greatest point of the whole orbit; no other orbit has it.

    The place is a point outside the polygon that may exceed the bounds.
    """
    course = Course(polygon, place)
    # Along a straight row, points only grow, by x and then by y, or only shrink. All have the same denominator.
    return max([point for run in course.runs for steps, point in ends_of_run(course, run)])


def furthest(polygon, point, a, b):
    """Return the maximum of a * x + b * y over the whole orbit, and the first number of reflections where it is."""
    require_outside(polygon, point)
    require_modulus(polygon)
    for value in (a, b):
        if not is_whole(value):
            raise InvalidCoefficient(value)
    course = Course(polygon, point)
    found = []
    for run in course.runs:
        for place, (x, y, d) in ends_of_run(course, run):
            found.append((a * x + b * y, -place))
    # Of equal values, the one with the first place is the greatest pair.
    value, negative = max(found)
    return (fraction(value, course.d), -negative - course.before)


def beats_until(course, gap, rate, other_rate):
    """Return the number of beats until a point catches up with another one that is gap places ahead, or None."""
    gain = rate - other_rate
    if not course.ending:
        return least_multiplier(gain, gap, course.cycle())
    if gap == 0:
        return 0
    if gain == 0 or gap % gain != 0:
        return None
    beats = gap // gain
    meeting = course.before + rate * beats
    # The places of both points change in one direction only, so if they can get there, they can do so all the way.
    if beats < 0 or meeting < 0 or meeting > course.length:
        return None
    return beats


def meeting_time(polygon, first, second, first_rate, second_rate):
    """Return the least number of beats after which both points are at the same point, or None."""
    require_outside(polygon, first)
    require_outside(polygon, second)
    require_count(first_rate, -LARGEST_RATE, LARGEST_RATE)
    require_count(second_rate, -LARGEST_RATE, LARGEST_RATE)
    require_modulus(polygon)
    course = Course(polygon, first)
    place = course.place_of(second)
    if place is None:
        return None
    return beats_until(course, place - course.before, first_rate, second_rate)
