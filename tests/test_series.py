import unittest
from math import comb, factorial

from algebrastack.errors import SolveError
from algebrastack.polys import Field, poly, poly_plus, poly_times
from algebrastack.rationals import rational
from algebrastack.series import (
    quotient_series,
    series_composed,
    series_exp,
    series_integral,
    series_inverse,
    series_log,
    series_of,
    series_plus,
    series_power,
    series_reversed,
    series_scaled,
    series_slope,
    series_times,
)

Q = Field()
ZERO, ONE = (0, 1), (1, 1)


def whole(*numbers):
    return tuple([(number, 1) for number in numbers])


def cut(one, many):
    return tuple((list(one) + [ZERO] * many)[:many])


SOME = (
    (),
    whole(0),
    whole(3),
    whole(0, 1),
    whole(1, 2, 3),
    ((1, 2), (-3, 4), (0, 1), (5, 1)),
    whole(0, 2, -1, 0, 4, 1),
    whole(1, 0, 0, 0, 0, -7),
    tuple([rational(k * k - 5, k + 1) for k in range(9)]),
)
NO_CONSTANT = tuple([(ZERO,) + one[1:] for one in SOME if one != ()])
CONSTANT_ONE = tuple([(ONE,) + one[1:] for one in SOME if one != ()])


class ReckoningTest(unittest.TestCase):
    def test_polynomials_as_series(self):
        self.assertEqual(series_of(whole(1, 2, 3), 5), whole(1, 2, 3, 0, 0))
        self.assertEqual(series_of(whole(1, 2, 3), 2), whole(1, 2))
        self.assertEqual(series_of(whole(1, 2, 3), 0), ())
        self.assertEqual(series_of((), 3), whole(0, 0, 0))

    def test_results_are_as_long_as_the_shorter_one(self):
        for one in SOME:
            for other in SOME:
                many = min(len(one), len(other))
                left, right = poly(Q, ()) + one, other
                self.assertEqual(len(series_plus(one, other)), many)
                self.assertEqual(len(series_times(one, other)), many)
                self.assertEqual(series_plus(one, other), cut(poly_plus(Q, left, right), many))
                self.assertEqual(series_times(one, other), cut(poly_times(Q, left, right), many))

    def test_multiples(self):
        self.assertEqual(series_scaled(whole(1, 2, 0), (1, 2)), ((1, 2), (1, 1), (0, 1)))
        self.assertEqual(series_scaled(whole(1, 2), ZERO), whole(0, 0))
        self.assertEqual(series_scaled((), ONE), ())

    def test_inverses(self):
        for one in SOME:
            if one == () or one[0] == ZERO:
                with self.assertRaises(SolveError):
                    series_inverse(one)
            else:
                self.assertEqual(len(series_inverse(one)), len(one))
                self.assertEqual(series_times(one, series_inverse(one)), series_of((ONE,), len(one)))
        self.assertEqual(series_inverse(whole(1, -1, 0, 0)), whole(1, 1, 1, 1))

    def test_slopes_and_integrals(self):
        self.assertEqual(series_slope(whole(5, 1, 2, 3)), whole(1, 4, 9))
        self.assertEqual(series_integral(whole(1, 4, 9)), whole(0, 1, 2, 3))
        self.assertEqual(series_integral(((1, 2), (1, 3))), ((0, 1), (1, 2), (1, 6)))
        self.assertEqual((series_slope(()), series_slope(whole(4))), ((), ()))
        self.assertEqual(series_integral(()), whole(0))
        for one in SOME:
            self.assertEqual(series_slope(series_integral(one)), one)

    def test_quotients(self):
        self.assertEqual(quotient_series(whole(0, 1), whole(1, -1, -1), 8), whole(0, 1, 1, 2, 3, 5, 8, 13))
        self.assertEqual(quotient_series(whole(1), whole(2), 3), ((1, 2), (0, 1), (0, 1)))
        self.assertEqual(quotient_series(whole(1), whole(1, 1), 0), ())
        self.assertEqual(quotient_series((), whole(1, 1), 2), whole(0, 0))
        for above in SOME:
            found = quotient_series(poly_plus(Q, above, ()), whole(3, 1, 4, 1, 5), 12)
            self.assertEqual(series_times(found, series_of(whole(3, 1, 4, 1, 5), 12)), cut(above, 12))
        for below in ((), whole(0, 1), whole(0, 0, 1)):
            for many in (0, 3):
                with self.assertRaises(SolveError):
                    quotient_series(whole(1), below, many)


class CompositionTest(unittest.TestCase):
    def test_compositions(self):
        for one in SOME:
            for other in NO_CONSTANT + ((),):
                many = min(len(one), len(other))
                found, power = series_of((), many), series_of((ONE,), many)
                for number in one:
                    found = series_plus(found, series_scaled(power, number))
                    power = series_times(power, other)
                self.assertEqual(series_composed(one, other), found)
        self.assertEqual(series_composed(whole(1, 1, 1, 1), whole(0, 1, 1, 0)), whole(1, 1, 2, 3))
        self.assertEqual(series_composed((), ()), ())
        for other in (whole(1), whole(2, 1, 1)):
            with self.assertRaises(SolveError):
                series_composed(whole(1, 1), other)

    def test_reversals(self):
        for one in NO_CONSTANT:
            if len(one) < 2 or one[1] == ZERO:
                with self.assertRaises(SolveError):
                    series_reversed(one)
            else:
                found = series_reversed(one)
                unit = series_of((ZERO, ONE), len(one))
                self.assertEqual(series_composed(one, found), unit)
                self.assertEqual(series_composed(found, one), unit)
        self.assertEqual(series_reversed(whole(0, 1, -1, 0, 0, 0)), whole(0, 1, 1, 2, 5, 14))
        self.assertEqual(series_reversed(whole(0, 2)), ((0, 1), (1, 2)))
        for one in ((), whole(0), whole(1), whole(1, 1, 1), whole(0, 0, 1)):
            with self.assertRaises(SolveError):
                series_reversed(one)


class PowerTest(unittest.TestCase):
    def test_exponentials(self):
        self.assertEqual(series_exp(whole(0, 1, 0, 0, 0)), tuple([(1, factorial(k)) for k in range(5)]))
        self.assertEqual(series_exp(whole(0)), whole(1))
        for one in NO_CONSTANT:
            found = series_exp(one)
            self.assertEqual(len(found), len(one))
            self.assertEqual(found[0], ONE)
            self.assertEqual(series_slope(found), series_times(series_slope(one), found))
        for one in ((), whole(1), whole(2, 1)):
            with self.assertRaises(SolveError):
                series_exp(one)

    def test_logarithms(self):
        self.assertEqual(series_log(whole(1, 1, 0, 0)), ((0, 1), (1, 1), (-1, 2), (1, 3)))
        self.assertEqual(series_log(whole(1)), whole(0))
        for one in CONSTANT_ONE:
            found = series_log(one)
            self.assertEqual(len(found), len(one))
            self.assertEqual(found[0], ZERO)
            self.assertEqual(series_times(series_slope(found), one), series_slope(one))
            self.assertEqual(series_exp(found), one)
        for one in NO_CONSTANT:
            self.assertEqual(series_log(series_exp(one)), one)
        for one in ((), whole(0, 1), whole(2, 1)):
            with self.assertRaises(SolveError):
                series_log(one)

    def test_powers(self):
        for one in CONSTANT_ONE:
            unit = series_of((ONE,), len(one))
            self.assertEqual(series_power(one, ZERO), unit)
            self.assertEqual(series_power(one, ONE), one)
            self.assertEqual(series_power(one, (3, 1)), series_times(one, series_times(one, one)))
            self.assertEqual(series_power(one, (-1, 1)), series_inverse(one))
            root = series_power(one, (1, 2))
            self.assertEqual(series_times(root, root), one)
            third = series_power(one, (-2, 3))
            cube = series_times(third, series_times(third, third))
            self.assertEqual(series_times(cube, series_times(one, one)), unit)
            self.assertEqual(series_power(one, (5, 7)), series_exp(series_scaled(series_log(one), (5, 7))))
        self.assertEqual(series_power(whole(1, 1, 0, 0, 0), (4, 1)), tuple([(comb(4, k), 1) for k in range(5)]))
        for one in ((), whole(0, 1), whole(2, 1)):
            for exponent in (ONE, ZERO, (-1, 2)):
                with self.assertRaises(SolveError):
                    series_power(one, exponent)


if __name__ == "__main__":
    unittest.main()
