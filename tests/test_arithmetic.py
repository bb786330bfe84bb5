import math
import unittest

from outleap.arithmetic import cross, edges_of, greatest_divisor, is_whole, pair_shift, side_of_line


class ArithmeticTest(unittest.TestCase):
    def test_is_whole(self):
        for value in (0, 1, -1, 10 ** 999, -(10 ** 999)):
            self.assertIs(is_whole(value), True)
        for value in (True, False, None, "1", "", [1], (1,), {}, {1: 1}):
            self.assertIs(is_whole(value), False)

    def test_greatest_divisor(self):
        for a in range(-30, 31):
            for b in range(-30, 31):
                self.assertEqual(greatest_divisor(a, b), math.gcd(a, b))
        self.assertEqual(greatest_divisor(6 * 10 ** 40, -9), 3)

    def test_cross(self):
        self.assertEqual(cross((1, 0), (0, 1)), 1)
        self.assertEqual(cross((0, 1), (1, 0)), -1)
        self.assertEqual(cross((2, 3), (5, 7)), -1)
        self.assertEqual(cross((2, 3), (-4, -6)), 0)

    def test_side_of_line(self):
        self.assertGreater(side_of_line((1, 1), (3, 2), (5, 4, 2)), 0)
        self.assertEqual(side_of_line((1, 1), (3, 2), (4, 3, 2)), 0)
        self.assertLess(side_of_line((1, 1), (3, 2), (5, 3, 2)), 0)

    def test_edges_of(self):
        corners = [(0, 0), (1, 0), (0, 1)]
        self.assertEqual(edges_of(corners), [((0, 0), (1, 0)), ((1, 0), (0, 1)), ((0, 1), (0, 0))])
        self.assertEqual(corners, [(0, 0), (1, 0), (0, 1)])

    def test_pair_shift(self):
        self.assertEqual(pair_shift((1, 5), (4, 3)), (6, -4))
