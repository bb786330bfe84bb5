"""Exact arithmetic that several modules need."""


def is_whole(value):
    """Return whether a value is an integer; True and False are none."""
    return isinstance(value, int) and not isinstance(value, bool)


def greatest_divisor(first, second):
    """Return the greatest common divisor, which is never negative."""
    a = abs(first)
    b = abs(second)
    while b != 0:
        a, b = b, a % b
    return a


def cross(first, second):
    """Return the cross product of two vectors."""
    return first[0] * second[1] - first[1] * second[0]


def edges_of(corners):
    """Return the list of pairs (start, end) of the edges, for a list of corners; edge i starts at corner i."""
    return list(zip(corners, corners[1:] + corners[:1]))


def pair_shift(first, second):
    """Return the translation that a reflection through first and then one through second amount to."""
    return (2 * (second[0] - first[0]), 2 * (second[1] - first[1]))


def side_of_line(start, end, point):
    """Return a positive number if a point (x, y, d) is to the left of the line from start to end.

    The number is negative to the right of the line, and 0 on it.
    """
    x, y, d = point
    direction = (end[0] - start[0], end[1] - start[1])
    # Multiplied by d, which is positive, all numbers are integers and the sign is the same.
    return cross(direction, (x - d * start[0], y - d * start[1]))


def fraction(n, d):
    """Return n / d as a fraction in lowest terms; d is not 0."""
    size = greatest_divisor(n, d)
    if d < 0:
        size = -size
    return (n // size, d // size)


def is_below(first, second):
    """Return whether a fraction is less than another one; their denominators are positive."""
    return first[0] * second[1] < second[0] * first[1]


def lowest_terms(x, y, d):
    """Return the point (x / d, y / d) in lowest terms; d is positive."""
    # Beginning with d, which is small, keeps the numbers small.
    size = greatest_divisor(greatest_divisor(d, x), y)
    return (x // size, y // size, d // size)


def signed_area(places):
    """Return the area within a closed path of points (x, y, d) as a fraction; it is negative if it runs clockwise."""
    area = (0, 1)
    for (x, y, d), (k, j, m) in edges_of(places):
        part = cross((x, y), (k, j))
        area = fraction(area[0] * 2 * d * m + part * area[1], area[1] * 2 * d * m)
    return area


def inverse_factor(factor, size):
    """Return the number from 0 to size - 1 whose product with the factor leaves the remainder 1.

    The factor and the size, which is positive, have no common divisor.
    """
    rest, divisor = factor % size, size
    found, other = 1, 0
    while divisor != 0:
        times = rest // divisor
        rest, divisor = divisor, rest - times * divisor
        found, other = other, found - times * other
    return found % size


def least_multiplier(factor, goal, size):
    """Return the least number from 0 on whose product with the factor leaves the remainder of the goal, or None."""
    common = greatest_divisor(factor, size)
    if goal % common != 0:
        return None
    reduced = size // common
    return goal // common * inverse_factor(factor // common, reduced) % reduced
