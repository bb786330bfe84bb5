"""All exceptions of the package."""


class InvalidPolygon(ValueError):
    def __init__(self, reason):
        self.reason = reason


class InvalidPoint(ValueError):
    def __init__(self, value):
        self.value = value


class InvalidMap(ValueError):
    def __init__(self, value):
        self.value = value


class InvalidFactor(ValueError):
    def __init__(self, value):
        self.value = value


class ParseError(ValueError):
    def __init__(self, value):
        self.value = value


class CommandError(ValueError):
    def __init__(self, value):
        self.value = value


class InvalidCount(ValueError):
    def __init__(self, value):
        self.value = value


class InvalidCoefficient(ValueError):
    def __init__(self, value):
        self.value = value


class InvalidName(ValueError):
    def __init__(self, name):
        self.name = name


class InvalidWord(ValueError):
    def __init__(self, value):
        self.value = value


class UnknownName(KeyError):
    def __init__(self, name):
        self.name = name


class NotOutside(LookupError):
    def __init__(self, value):
        self.value = value


class NotPeriodic(LookupError):
    def __init__(self, value):
        self.value = value


class InvalidRing(LookupError):
    def __init__(self, value):
        self.value = value


class EmptyHistory(LookupError):
    pass


class InvalidVersion(LookupError):
    def __init__(self, value):
        self.value = value


class ModulusTooLarge(ArithmeticError):
    def __init__(self, modulus):
        self.modulus = modulus


class RegionTooLarge(ArithmeticError):
    def __init__(self, area):
        self.area = area


class Undefined(RuntimeError):
    def __init__(self, steps):
        self.steps = steps
