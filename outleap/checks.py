"""Checks of arguments that several modules share."""

from outleap.arithmetic import is_whole
from outleap.errors import InvalidCount, InvalidRing, ModulusTooLarge, NotOutside
from outleap.modulus import modulus
from outleap.points import is_outside

LARGEST_MODULUS = 4096
LARGEST_COUNT = 10 ** 40


def require_outside(polygon, point):
    """Raise InvalidPoint or NotOutside unless the value is a point outside the polygon."""
    if not is_outside(polygon, point):
        raise NotOutside(point)


def require_count(value, lowest, highest):
    """Raise InvalidCount unless the value is an integer within the bounds."""
    if not is_whole(value) or value < lowest or value > highest:
        raise InvalidCount(value)


def require_modulus(polygon):
    """Raise ModulusTooLarge if the orbits around the polygon may be too long to follow."""
    size = modulus(polygon)
    if size > LARGEST_MODULUS:
        raise ModulusTooLarge(size)


def require_index(value):
    """Raise InvalidRing unless the value is the index of a ring."""
    if not is_whole(value) or value < 1:
        raise InvalidRing(value)
