import itertools
import math
import unittest
from fractions import Fraction

from outleap.arithmetic import (
    cross, edges_of, fraction, greatest_divisor, inverse_factor, is_below, is_whole, least_multiplier, lowest_terms,
    pair_shift, side_of_line, signed_area)


class ArithmeticTest(unittest.TestCase):
    def test_is_whole(self):
        for value in (0, 1, -1, 10 ** 999, -(10 ** 999)):
            self.assertIs(is_whole(value), True)
        for value in (True, False, None, "1", "", [1], (1,), {}, {1: 1}):
            self.assertIs(is_whole(value), False)

    def test_greatest_divisor(self):
        for a in range(-30, 31):
            for b in range(-30, 31):
                self.assertEqual(greatest_divisor(a, b), math.gcd(a, b))
        self.assertEqual(greatest_divisor(6 * 10 ** 40, -9), 3)

    def test_cross(self):
        self.assertEqual(cross((1, 0), (0, 1)), 1)
        self.assertEqual(cross((0, 1), (1, 0)), -1)
        self.assertEqual(cross((2, 3), (5, 7)), -1)
        self.assertEqual(cross((2, 3), (-4, -6)), 0)

    def test_signed_area(self):
        places = [(0, 0, 1), (2, 0, 1), (2, 1, 1), (0, 1, 1)]
        self.assertEqual(signed_area(places), (2, 1))
        self.assertEqual(signed_area(places[::-1]), (-2, 1))
        self.assertEqual(signed_area(places[:3]), (1, 1))
        self.assertEqual(signed_area([(1, 1, 2), (4, 1, 3), (1, 3, 2)]), (5, 12))
        self.assertEqual(signed_area([(0, 0, 1), (1, 0, 1), (0, 0, 1), (0, 1, 1)]), (0, 1))

    def test_side_of_line(self):
        self.assertGreater(side_of_line((1, 1), (3, 2), (5, 4, 2)), 0)
        self.assertEqual(side_of_line((1, 1), (3, 2), (4, 3, 2)), 0)
        self.assertLess(side_of_line((1, 1), (3, 2), (5, 3, 2)), 0)

    def test_edges_of(self):
        corners = [(0, 0), (1, 0), (0, 1)]
        self.assertEqual(edges_of(corners), [((0, 0), (1, 0)), ((1, 0), (0, 1)), ((0, 1), (0, 0))])
        self.assertEqual(corners, [(0, 0), (1, 0), (0, 1)])

    def test_pair_shift(self):
        self.assertEqual(pair_shift((1, 5), (4, 3)), (6, -4))

    def test_fraction(self):
        for n, d in itertools.product(range(-12, 13), repeat=2):
            if d != 0:
                expected = Fraction(n, d)
                self.assertEqual(fraction(n, d), (expected.numerator, expected.denominator))

    def test_is_below(self):
        for n, k in itertools.product(range(-5, 6), repeat=2):
            for d, m in itertools.product(range(1, 4), repeat=2):
                self.assertIs(is_below((n, d), (k, m)), Fraction(n, d) < Fraction(k, m))

    def test_lowest_terms(self):
        self.assertEqual(lowest_terms(6, -10, 4), (3, -5, 2))
        self.assertEqual(lowest_terms(0, 0, 4), (0, 0, 1))
        self.assertEqual(lowest_terms(0, 3, 4), (0, 3, 4))

    def test_inverse_factor(self):
        for size in range(1, 30):
            for factor in range(-40, 41):
                if math.gcd(factor, size) == 1:
                    found = inverse_factor(factor, size)
                    self.assertIn(found, range(size))
                    self.assertEqual(found * factor % size, 1 % size)

    def test_least_multiplier(self):
        for size, factor, goal in itertools.product(range(1, 16), range(-17, 18), range(-3, 18)):
            expected = [times for times in range(size) if (times * factor - goal) % size == 0]
            self.assertEqual(least_multiplier(factor, goal, size), min(expected, default=None))
