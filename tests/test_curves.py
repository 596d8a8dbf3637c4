import unittest

from algebrastack.curves import Curve
from algebrastack.errors import NumberError

SMALL = ((5, 1, 1), (7, 0, 3), (7, 3, 0), (11, 1, 6), (13, 4, 4), (17, 2, 2), (23, 1, 1), (31, -3, 7))


def small_curves():
    return [Curve(*row) for row in SMALL]


def plain_points(curve):
    places = range(curve.prime)
    return tuple([
        (x, y) for x in places for y in places if (y * y - x ** 3 - curve.a * x - curve.b) % curve.prime == 0
    ])


class CurveTest(unittest.TestCase):
    def test_fields(self):
        curve = Curve(97, 2, 3)
        self.assertEqual((curve.prime, curve.a, curve.b), (97, 2, 3))
        curve = Curve(7, -3, 24)
        self.assertEqual((curve.prime, curve.a, curve.b), (7, 4, 3))
        self.assertEqual(Curve(2 ** 61 - 1, 1, 1).prime, 2 ** 61 - 1)

    def test_primes(self):
        for prime in (-7, 0, 1, 2, 3, 4, 6, 9, 15, 25, 561, 2001):
            with self.assertRaises(NumberError):
                Curve(prime, 1, 1)

    def test_corners(self):
        for prime in (5, 7, 11, 13):
            for a in range(-3, prime + 2):
                for b in range(-3, prime + 2):
                    if (4 * a ** 3 + 27 * b ** 2) % prime == 0:
                        with self.assertRaises(NumberError):
                            Curve(prime, a, b)
                    else:
                        self.assertEqual(Curve(prime, a, b).a, a % prime)

    def test_has(self):
        curve = Curve(11, 1, 6)
        self.assertIs(curve.has(None), True)
        self.assertIs(curve.has((2, 7)), True)
        self.assertIs(curve.has((2, 4)), True)
        for point in ((2, 5), (0, 0), (2, 18), (13, 7), (2, -4), (-9, 7), (11, 0), (2, 15)):
            self.assertIs(curve.has(point), False)
        for curve in small_curves():
            found = plain_points(curve)
            for x in range(-2, curve.prime + 2):
                for y in range(-2, curve.prime + 2):
                    self.assertIs(curve.has((x, y)), (x, y) in found)


class SumTest(unittest.TestCase):
    def test_known_sums(self):
        curve = Curve(97, 2, 3)
        self.assertEqual(curve.added((3, 6), (3, 6)), (80, 10))
        self.assertEqual(curve.added((80, 10), (3, 6)), (80, 87))
        self.assertEqual(curve.added((3, 91), (80, 10)), (3, 6))
        curve = Curve(11, 1, 6)
        self.assertEqual(curve.added((2, 7), (2, 7)), (5, 2))
        self.assertEqual(curve.added((2, 7), (5, 2)), (8, 3))

    def test_turned(self):
        for curve in small_curves():
            self.assertIsNone(curve.turned(None))
            for x, y in curve.all_points():
                self.assertEqual(curve.turned((x, y)), (x, -y % curve.prime))
                self.assertIsNone(curve.added((x, y), curve.turned((x, y))))

    def test_sums_in_any_order_and_brackets(self):
        for curve in small_curves()[:6]:
            found = (None,) + curve.all_points()
            for one in found:
                self.assertEqual(curve.added(one, None), one)
                self.assertEqual(curve.added(None, one), one)
                for other in found:
                    both = curve.added(one, other)
                    self.assertIn(both, found)
                    self.assertEqual(both, curve.added(other, one))
                    for third in found[::3]:
                        self.assertEqual(curve.added(both, third), curve.added(one, curve.added(other, third)))

    def test_points_with_y_0(self):
        curve = Curve(7, 3, 0)
        self.assertIsNone(curve.added((0, 0), (0, 0)))
        self.assertEqual(curve.order_of_point((0, 0)), 2)
        self.assertEqual(curve.turned((0, 0)), (0, 0))

    def test_times(self):
        for curve in small_curves():
            for point in (None,) + curve.all_points()[:4]:
                here = None
                for many in range(curve.prime * 2):
                    self.assertEqual(curve.times(many, point), here)
                    self.assertEqual(curve.times(-many, point), curve.turned(here))
                    here = curve.added(here, point)

    def test_great_factors(self):
        curve = Curve(97, 2, 3)
        self.assertEqual(curve.times(10 ** 60 + 3, (3, 6)), curve.times((10 ** 60 + 3) % 5, (3, 6)))
        self.assertEqual(curve.times(-(10 ** 60) - 3, (3, 6)), curve.times((-(10 ** 60) - 3) % 5, (3, 6)))
        great = Curve(2 ** 61 - 1, 0, 3)
        many = 10 ** 17 + 9
        self.assertTrue(great.has((1, 2)))
        self.assertEqual(
            great.added(great.times(many, (1, 2)), great.times(7, (1, 2))), great.times(many + 7, (1, 2))
        )

    def test_what_is_no_point(self):
        curve = Curve(11, 1, 6)
        for point in ((2, 5), (13, 7), (2, -4)):
            for call in (
                lambda: curve.turned(point),
                lambda: curve.added(point, None),
                lambda: curve.added(None, point),
                lambda: curve.added((2, 7), point),
                lambda: curve.times(0, point),
                lambda: curve.times(2, point),
                lambda: curve.times(-1, point),
                lambda: curve.order_of_point(point),
                lambda: curve.logarithm(point, (2, 7)),
                lambda: curve.logarithm((2, 7), point),
            ):
                with self.assertRaises(NumberError):
                    call()


class CountTest(unittest.TestCase):
    def test_all_points(self):
        for curve in small_curves():
            self.assertEqual(curve.all_points(), plain_points(curve))
            self.assertEqual(curve.count_points(), len(plain_points(curve)) + 1)
        self.assertEqual(Curve(11, 1, 6).count_points(), 13)
        self.assertEqual(Curve(97, 2, 3).count_points(), 100)

    def test_orders(self):
        for curve in small_curves():
            self.assertEqual(curve.order_of_point(None), 1)
            for point in curve.all_points():
                order = curve.order_of_point(point)
                self.assertIsNone(curve.times(order, point))
                self.assertTrue(all(curve.times(many, point) is not None for many in range(1, order)))
                self.assertEqual(curve.count_points() % order, 0)

    def test_logarithms(self):
        for curve in small_curves():
            found = (None,) + curve.all_points()
            for base in found[::4]:
                least = {}
                for many in range(curve.order_of_point(base)):
                    least.setdefault(curve.times(many, base), many)
                for point in found:
                    self.assertEqual(curve.logarithm(point, base), least.get(point))
        self.assertEqual(Curve(97, 2, 3).logarithm((80, 10), (3, 6)), 2)
        self.assertIsNone(Curve(7, 3, 0).logarithm((1, 2), (0, 0)))
        self.assertEqual(Curve(7, 3, 0).logarithm(None, None), 0)

    def test_primes_up_to_2000(self):
        curve = Curve(1999, 5, 8)
        many = curve.count_points()
        self.assertLessEqual(abs(many - 2000), 90)
        point = curve.all_points()[0]
        self.assertEqual(many % curve.order_of_point(point), 0)
        self.assertEqual(curve.logarithm(curve.times(77, point), point), 77 % curve.order_of_point(point))
        greater = Curve(2003, 0, 1)
        self.assertEqual(greater.times(2, (0, 1)), (0, 2002))
        for call in (
            greater.all_points,
            greater.count_points,
            lambda: greater.order_of_point((0, 1)),
            lambda: greater.order_of_point(None),
            lambda: greater.logarithm((0, 1), (0, 1)),
        ):
            with self.assertRaises(NumberError):
                call()


if __name__ == "__main__":
    unittest.main()
