import unittest
from math import isqrt

from algebrastack.errors import NumberError
from algebrastack.rationals import compared
from algebrastack.squares import least_point, minus_point, points, root_convergents, root_parts, sum_of_two_squares

NOT_SQUARES = [number for number in range(2, 120) if isqrt(number) ** 2 != number]


def least_by_trying(number, sign, most):
    """Return the least (x, y) with x * x - n * y * y = a sign, y at most a bound, by trying."""
    for y in range(1, most + 1):
        square = number * y * y + sign
        if square > 0 and isqrt(square) ** 2 == square:
            return isqrt(square), y
    return None


class PartsTest(unittest.TestCase):
    def test_parts(self):
        for number, whole, parts in (
            (2, 1, (2,)),
            (3, 1, (1, 2)),
            (7, 2, (1, 1, 1, 4)),
            (13, 3, (1, 1, 1, 1, 6)),
            (14, 3, (1, 2, 1, 6)),
            (61, 7, (1, 4, 3, 1, 2, 2, 1, 3, 4, 1, 14)),
            (10 ** 20 + 1, 10 ** 10, (2 * 10 ** 10,)),
        ):
            self.assertEqual(root_parts(number), (whole, parts))

    def test_parts_come_back(self):
        for number in NOT_SQUARES:
            whole, parts = root_parts(number)
            self.assertEqual(whole, isqrt(number))
            self.assertEqual(parts[-1], 2 * whole)
            self.assertNotIn(2 * whole, parts[:-1])
            self.assertEqual(parts[:-1], parts[:-1][::-1])

    def test_errors(self):
        for number in (-1, -2, -100, 0, 1, 4, 9, 144, 10 ** 40):
            with self.assertRaises(NumberError):
                root_parts(number)
            with self.assertRaises(NumberError):
                root_convergents(number, 3)
            with self.assertRaises(NumberError):
                least_point(number)
            with self.assertRaises(NumberError):
                minus_point(number)
            with self.assertRaises(NumberError):
                points(number, 1)

    def test_2000_parts(self):
        self.assertEqual(len(root_parts(1076524)[1]), 2000)
        for number in (1075489, 1058401, 10 ** 12 + 11):
            with self.assertRaises(NumberError):
                root_parts(number)


class ConvergentsTest(unittest.TestCase):
    def test_convergents(self):
        self.assertEqual(root_convergents(2, 5), ((1, 1), (3, 2), (7, 5), (17, 12), (41, 29)))
        self.assertEqual(root_convergents(7, 6), ((2, 1), (3, 1), (5, 2), (8, 3), (37, 14), (45, 17)))
        self.assertEqual(root_convergents(7, 1), ((2, 1),))
        self.assertEqual(root_convergents(7, 0), ())

    def test_convergents_stand_around_the_root(self):
        for number in NOT_SQUARES:
            found = root_convergents(number, 12)
            for place, (above, below) in enumerate(found):
                self.assertEqual(above * above < number * below * below, place % 2 == 0)
                if place > 1:
                    last = found[place - 2]
                    self.assertEqual(compared((above, below), last), 1 if place % 2 == 0 else -1)


class PointsTest(unittest.TestCase):
    def test_least_points(self):
        for number, x, y in ((2, 3, 2), (3, 2, 1), (5, 9, 4), (6, 5, 2), (7, 8, 3), (13, 649, 180)):
            self.assertEqual(least_point(number), (x, y))
        self.assertEqual(least_point(61), (1766319049, 226153980))
        self.assertEqual(least_point(109), (158070671986249, 15140424455100))
        for number in NOT_SQUARES:
            x, y = least_point(number)
            self.assertEqual(x * x - number * y * y, 1)
            if y < 3000:
                self.assertEqual((x, y), least_by_trying(number, 1, 3000))

    def test_points_of_minus_1(self):
        self.assertEqual(minus_point(2), (1, 1))
        self.assertEqual(minus_point(5), (2, 1))
        self.assertEqual(minus_point(13), (18, 5))
        self.assertEqual(minus_point(61), (29718, 3805))
        for number in NOT_SQUARES:
            found = minus_point(number)
            self.assertEqual(found is None, len(root_parts(number)[1]) % 2 == 0)
            if found is None:
                self.assertIsNone(least_by_trying(number, -1, 200))
            else:
                self.assertEqual(found[0] ** 2 - number * found[1] ** 2, -1)
                self.assertIn(least_by_trying(number, -1, 500), (found, None))

    def test_first_points(self):
        self.assertEqual(points(2, 4), ((3, 2), (17, 12), (99, 70), (577, 408)))
        self.assertEqual(points(3, 3), ((2, 1), (7, 4), (26, 15)))
        self.assertEqual(points(61, 1), ((1766319049, 226153980),))
        self.assertEqual(points(61, 0), ())
        for number in (2, 3, 5, 6, 7, 8, 10, 11, 12, 15):
            found = points(number, 3)
            plain = [y for y in range(1, found[-1][1] + 1) if isqrt(number * y * y + 1) ** 2 == number * y * y + 1]
            self.assertEqual([y for _, y in found], plain)


class SumTest(unittest.TestCase):
    def test_sums(self):
        self.assertEqual(sum_of_two_squares(0), ((0, 0),))
        self.assertEqual(sum_of_two_squares(1), ((0, 1),))
        self.assertEqual(sum_of_two_squares(2), ((1, 1),))
        self.assertEqual(sum_of_two_squares(3), ())
        self.assertEqual(sum_of_two_squares(25), ((0, 5), (3, 4)))
        self.assertEqual(sum_of_two_squares(50), ((1, 7), (5, 5)))
        self.assertEqual(sum_of_two_squares(325), ((1, 18), (6, 17), (10, 15)))
        for number in range(300):
            plain = [(a, b) for a in range(18) for b in range(a, 18) if a * a + b * b == number]
            self.assertEqual(sum_of_two_squares(number), tuple(plain))

    def test_bounds(self):
        found = sum_of_two_squares(10 ** 6)
        self.assertEqual(found, ((0, 1000), (280, 960), (352, 936), (600, 800)))
        for number in (-1, -25, 10 ** 6 + 1, 10 ** 9):
            with self.assertRaises(NumberError):
                sum_of_two_squares(number)


if __name__ == "__main__":
    unittest.main()
