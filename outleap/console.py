"""A console that executes lines of text on a simulation."""

from outleap.checks import LARGEST_COUNT
from outleap.errors import CommandError, ParseError
from outleap.formats import format_point, parse_map, parse_point, parse_polygon, read_integer
from outleap.modulus import modulus
from outleap.polygons import Polygon
from outleap.rings import index_of
from outleap.simulation import Simulation, is_name

TRIANGLE = ((0, 0), (1, 0), (0, 1))
DONE = "ok"


def parse_name(text):
    if not is_name(text):
        raise ParseError(text)
    return text


def parse_count(text):
    number = read_integer(text)
    if number is None or abs(number) > LARGEST_COUNT:
        raise ParseError(text)
    return number


def require_end(text):
    """Raise ParseError if anything follows a command that takes nothing."""
    if text != "":
        raise ParseError(text)


def run_place(simulation, rest):
    name, blank, point = rest.partition(" ")
    simulation.place(parse_name(name), parse_point(point))
    return DONE


def run_advance(simulation, rest):
    name, blank, count = rest.partition(" ")
    simulation.advance(parse_name(name), parse_count(count))
    return DONE


def run_remove(simulation, rest):
    simulation.remove(parse_name(rest))
    return DONE


def run_transform(simulation, rest):
    simulation.transform_all(parse_map(rest))
    return DONE


def run_polygon(simulation, rest):
    simulation.replace_polygon(parse_polygon(rest).vertices())
    return DONE


def run_undo(simulation, rest):
    require_end(rest)
    simulation.undo()
    return DONE


def run_where(simulation, rest):
    return format_point(simulation.position(parse_name(rest)))


def run_period(simulation, rest):
    found = simulation.period(parse_name(rest))
    if found is None:
        return "undefined"
    return str(found)


def run_ring(simulation, rest):
    place = simulation.position(parse_name(rest))
    return str(index_of(simulation.polygon_at(), place))


def run_names(simulation, rest):
    require_end(rest)
    names = simulation.names()
    if len(names) == 0:
        return "none"
    return " ".join(names)


def run_modulus(simulation, rest):
    require_end(rest)
    return str(modulus(simulation.polygon_at()))


# Each takes the simulation and what follows the first word of a line. It raises ParseError, before it does anything,
# if that is not what the command takes.
COMMANDS = {
    "place": run_place,
    "advance": run_advance,
    "remove": run_remove,
    "transform": run_transform,
    "polygon": run_polygon,
    "undo": run_undo,
    "where": run_where,
    "period": run_period,
    "ring": run_ring,
    "names": run_names,
    "modulus": run_modulus,
}


class Console:
    """A console with a simulation of its own."""

    __slots__ = ("simulation",)

    def __init__(self):
        self.simulation = Simulation(Polygon(TRIANGLE))

    def execute(self, line):
        """Execute one line and return its result as a string."""
        # A line that ends in a blank has an empty word, so nothing follows the first word only if there is no blank.
        if not isinstance(line, str) or "" in line.split(" "):
            raise CommandError(line)
        word, blank, rest = line.partition(" ")
        if word not in COMMANDS:
            raise CommandError(line)
        command = COMMANDS[word]
        try:
            return command(self.simulation, rest)
        except ParseError:
            raise CommandError(line) from None
