"""Words: the vertices that consecutive reflections use."""

from outleap.arithmetic import is_whole
from outleap.checks import require_outside
from outleap.errors import InvalidWord
from outleap.strips import Strips
from outleap.tangents import FORWARD, vertices_ahead

LONGEST_WORD = 200


def require_word(polygon, word):
    """Raise InvalidWord unless the value is a list or a tuple of 1 to 200 vertex numbers."""
    if not isinstance(word, (list, tuple)) or len(word) < 1 or len(word) > LONGEST_WORD:
        raise InvalidWord(word)
    for vertex in word:
        if not is_whole(vertex) or vertex < 0 or vertex >= len(polygon):
            raise InvalidWord(word)


def strips_of(polygon, word):
    """Return the region of a word, and the image of the origin under the reflections of the word."""
    corners = polygon.vertices()
    strips = Strips(polygon)
    sign = 1
    offset = (0, 0)
    for vertex in word:
        strips.keep_users(vertex, sign, offset)
        x, y = corners[vertex]
        sign = -sign
        offset = (2 * x - offset[0], 2 * y - offset[1])
    return (strips, offset)


def itinerary(polygon, point, steps):
    """Return the list of the numbers of the vertices that the next reflections use."""
    require_outside(polygon, point)
    return vertices_ahead(polygon.vertices(), point, steps, FORWARD)


def word_bounds(polygon, word):
    """Return the list of (e, low, high) for the region of a word, or None if it is empty."""
    require_word(polygon, word)
    strips, offset = strips_of(polygon, word)
    return strips.tight_bounds()


def word_cell(polygon, word):
    """Return the bounds of the cell of the points that use a word again and again, or None if there is none."""
    require_word(polygon, word)
    # An odd number of reflections turns the points around; repeated once more, it moves each point to itself.
    times = 1 + len(word) % 2
    strips, offset = strips_of(polygon, list(word) * times)
    # Reflections that amount to a translation lead away for ever, and no orbit does that.
    if offset != (0, 0):
        return None
    return strips.tight_bounds()
