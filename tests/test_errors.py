import unittest

from outleap import errors

WITH_ATTRIBUTE = [
    ("InvalidPolygon", ValueError, "reason"),
    ("InvalidPoint", ValueError, "value"),
    ("InvalidMap", ValueError, "value"),
    ("InvalidFactor", ValueError, "value"),
    ("ParseError", ValueError, "value"),
    ("CommandError", ValueError, "value"),
    ("InvalidCount", ValueError, "value"),
    ("InvalidCoefficient", ValueError, "value"),
    ("InvalidName", ValueError, "name"),
    ("InvalidWord", ValueError, "value"),
    ("UnknownName", KeyError, "name"),
    ("NotOutside", LookupError, "value"),
    ("NotPeriodic", LookupError, "value"),
    ("InvalidRing", LookupError, "value"),
    ("InvalidVersion", LookupError, "value"),
    ("ModulusTooLarge", ArithmeticError, "modulus"),
    ("RegionTooLarge", ArithmeticError, "area"),
    ("Undefined", RuntimeError, "steps"),
]


class ErrorsTest(unittest.TestCase):
    def test_names(self):
        expected = {name for name, base, attribute in WITH_ATTRIBUTE} | {"EmptyHistory"}
        defined = {name for name, value in vars(errors).items() if isinstance(value, type)}
        self.assertEqual(defined, expected)

    def test_direct_base_class(self):
        for name, base, attribute in WITH_ATTRIBUTE + [("EmptyHistory", LookupError, None)]:
            with self.subTest(name):
                kind = getattr(errors, name)
                self.assertEqual(kind.__bases__, (base,))
                self.assertEqual(kind.__name__, name)
                self.assertEqual(kind.__module__, "outleap.errors")

    def test_attribute_is_the_very_argument(self):
        for name, base, attribute in WITH_ATTRIBUTE:
            for value in (["x", 1], (1, 2), "order", None, 10 ** 999):
                with self.subTest(name):
                    error = getattr(errors, name)(value)
                    self.assertIs(getattr(error, attribute), value)
                    self.assertEqual(vars(error), {attribute: value})
                    self.assertEqual(error.args, (value,))

    def test_argument_by_name(self):
        for name, base, attribute in WITH_ATTRIBUTE:
            with self.subTest(name):
                error = getattr(errors, name)(**{attribute: "a"})
                self.assertEqual(getattr(error, attribute), "a")

    def test_attribute_belongs_to_the_object(self):
        for name, base, attribute in WITH_ATTRIBUTE:
            with self.subTest(name):
                kind = getattr(errors, name)
                first, second = kind("first"), kind("second")
                self.assertEqual(getattr(first, attribute), "first")
                self.assertEqual(getattr(second, attribute), "second")

    def test_empty_history_has_no_attribute(self):
        error = errors.EmptyHistory()
        self.assertEqual(vars(error), {})
        self.assertEqual(error.args, ())
