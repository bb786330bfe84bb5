"""Points, polygons, rings and maps as texts."""

from outleap.affine import is_map
from outleap.arithmetic import fraction, greatest_divisor
from outleap.errors import InvalidPolygon, ParseError
from outleap.points import is_point
from outleap.polygons import MOST_VERTICES, Polygon
from outleap.rows import is_row

MOST_DIGITS = 1000


def fraction_text(n, d):
    """Return the text of n / d."""
    n, d = fraction(n, d)
    if d == 1:
        return str(n)
    return f"{n}/{d}"


def format_point(point):
    """Return the text of a point."""
    x, y, d = point
    return f"{fraction_text(x, d)} {fraction_text(y, d)}"


def format_polygon(polygon):
    """Return the text of a polygon."""
    return ", ".join([f"{x} {y}" for x, y in polygon.vertices()])


def format_ring(rows):
    """Return the text of a list of at least one row."""
    return "\n".join([f"{format_point(start)}; {near} {far}; {count}" for start, near, far, count in rows])


def format_map(mapping):
    """Return the text of a map."""
    return " ".join([str(part) for part in mapping])


def read_integer(text):
    """Return the integer of a text, or None if there is none."""
    digits = text.removeprefix("-")
    if len(digits) > MOST_DIGITS or not digits.isdecimal():
        return None
    number = int(text)
    # Leading zeros, and a sign before 0, are not written.
    if str(number) != text:
        return None
    return number


def read_integers(text, count):
    """Return the tuple of that many integers of a text, or None if there is none."""
    numbers = [read_integer(word) for word in text.split(" ")]
    if len(numbers) != count or None in numbers:
        return None
    return tuple(numbers)


def read_fraction(text):
    """Return the fraction of a text, or None if there is none."""
    above, bar, below = text.partition("/")
    n = read_integer(above)
    d = 1
    if bar != "":
        d = read_integer(below)
        if d is None or d < 2:
            return None
    if n is None or greatest_divisor(n, d) != 1:
        return None
    return (n, d)


def read_place(text):
    """Return the point of a text, without bounds, or None if there is none."""
    parts = [read_fraction(word) for word in text.split(" ")]
    if len(parts) != 2 or None in parts:
        return None
    (n, d), (k, m) = parts
    size = d * m // greatest_divisor(d, m)
    return (n * (size // d), k * (size // m), size)


def read_row(text):
    """Return a tuple for a line of a ring, with None where a part has no valid text, or None."""
    parts = text.split("; ")
    if len(parts) != 3:
        return None
    ends = read_integers(parts[1], 2)
    if ends is None:
        return None
    return (read_place(parts[0]), ends[0], ends[1], read_integer(parts[2]))


def parse_point(text):
    """Return the point of a text."""
    place = read_place(text) if isinstance(text, str) else None
    if not is_point(place):
        raise ParseError(text)
    return place


def parse_polygon(text):
    """Return the polygon of a text."""
    if not isinstance(text, str):
        raise ParseError(text)
    # What is no pair of integers is None here, and that is no vertex.
    vertices = [read_integers(part, 2) for part in text.split(", ")]
    try:
        polygon = Polygon(vertices)
    except InvalidPolygon:
        raise ParseError(text) from None
    if polygon.vertices() != vertices:
        raise ParseError(text)
    return polygon


def parse_ring(text):
    """Return the list of the rows of a text."""
    if not isinstance(text, str):
        raise ParseError(text)
    rows = [read_row(line) for line in text.split("\n")]
    # The polygon is not known, so a row may belong to the largest one.
    if not all([is_row(row, MOST_VERTICES) for row in rows]):
        raise ParseError(text)
    return rows


def parse_map(text):
    """Return the map of a text."""
    mapping = read_integers(text, 6) if isinstance(text, str) else None
    if not is_map(mapping):
        raise ParseError(text)
    return mapping
