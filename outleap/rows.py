"""Single rows of rings, before anything is known about the others."""

from outleap.arithmetic import is_whole
from outleap.points import is_place


def is_vertex_number(value, size):
    return is_whole(value) and 0 <= value < size


def is_row(value, size):
    """Return whether any value is a tuple (start, near, far, count), for a polygon of that many vertices."""
    if not isinstance(value, tuple) or len(value) != 4:
        return False
    start, near, far, count = value
    if not is_place(start) or not is_vertex_number(near, size) or not is_vertex_number(far, size):
        return False
    return near != far and is_whole(count) and count >= 1
