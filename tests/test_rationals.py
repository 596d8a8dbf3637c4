import unittest
from fractions import Fraction

from algebrastack.errors import NumberError
from algebrastack.rationals import (
    ONE,
    ZERO,
    compared,
    difference_of,
    product_of,
    quotient_of,
    raised,
    rational,
    rational_text,
    sign,
    sum_of,
)

SOME = [rational(above, below) for above in range(-6, 7) for below in range(1, 6)]


def pair(number):
    return (number.numerator, number.denominator)


class RationalTest(unittest.TestCase):
    def test_the_constants(self):
        self.assertEqual(ZERO, (0, 1))
        self.assertEqual(ONE, (1, 1))

    def test_lowest_terms_with_a_denominator_above_0(self):
        self.assertEqual(rational(6, 4), (3, 2))
        self.assertEqual(rational(-6, 4), (-3, 2))
        self.assertEqual(rational(6, -4), (-3, 2))
        self.assertEqual(rational(-6, -4), (3, 2))
        self.assertEqual(rational(0, 5), (0, 1))
        self.assertEqual(rational(0, -5), (0, 1))
        self.assertEqual(rational(5), (5, 1))
        self.assertEqual(rational(-5), (-5, 1))
        self.assertEqual(rational(one=4, other=6), (2, 3))

    def test_a_division_by_0(self):
        for one in (0, 1, -3):
            with self.assertRaises(NumberError):
                rational(one, 0)
        for one in (ZERO, ONE, (-2, 3)):
            with self.assertRaises(NumberError):
                quotient_of(one, ZERO)

    def test_reckoning(self):
        for one in SOME:
            for other in SOME:
                left, right = Fraction(*one), Fraction(*other)
                self.assertEqual(sum_of(one, other), pair(left + right))
                self.assertEqual(difference_of(one, other), pair(left - right))
                self.assertEqual(product_of(one, other), pair(left * right))
                self.assertEqual(compared(one, other), (left > right) - (left < right))
                if right != 0:
                    self.assertEqual(quotient_of(one, other), pair(left / right))

    def test_reckoning_has_no_bound(self):
        large = (10 ** 3000, 3)
        self.assertEqual(sum_of(large, large), (2 * 10 ** 3000, 3))
        self.assertEqual(difference_of(large, large), ZERO)
        self.assertEqual(product_of(large, large), (10 ** 6000, 9))
        self.assertEqual(quotient_of(large, large), ONE)
        self.assertEqual(compared(large, ONE), 1)

    def test_signs(self):
        self.assertEqual(sign((-7, 2)), -1)
        self.assertEqual(sign(ZERO), 0)
        self.assertEqual(sign((1, 100)), 1)

    def test_comparisons(self):
        self.assertEqual(compared((1, 3), (1, 2)), -1)
        self.assertEqual(compared((2, 4), (1, 2)), 0)
        self.assertEqual(compared((-1, 3), (-1, 2)), 1)


class RaisedTest(unittest.TestCase):
    def test_exponents_above_0_and_0_and_below(self):
        for one in SOME:
            for exponent in range(-5, 6):
                if one == ZERO and exponent < 0:
                    continue
                self.assertEqual(raised(one, exponent), pair(Fraction(*one) ** exponent), (one, exponent))
        self.assertEqual(raised((-2, 3), -3), (-27, 8))
        self.assertEqual(raised(ZERO, 0), ONE)
        self.assertEqual(raised(ZERO, 5), ZERO)

    def test_0_with_an_exponent_below_0(self):
        for exponent in (-1, -2, -100):
            with self.assertRaises(NumberError):
                raised(ZERO, exponent)

    def test_2000_digits_are_not_too_many(self):
        most = 10 ** 2000 - 1
        self.assertEqual(raised((10, 1), 1999), (10 ** 1999, 1))
        self.assertEqual(raised((-10, 1), 1999), (-(10 ** 1999), 1))
        self.assertEqual(raised((10, 1), -1999), (1, 10 ** 1999))
        self.assertEqual(raised((1, 10), 1999), (1, 10 ** 1999))
        self.assertEqual(raised((most, 1), 1), (most, 1))
        self.assertEqual(raised((1, most), -1), (most, 1))
        self.assertEqual(raised((2, 1), 6643), (2 ** 6643, 1))

    def test_more_than_2000_digits(self):
        for one, exponent in (
            ((10, 1), 2000),
            ((-10, 1), 2000),
            ((-10, 1), 2001),
            ((10, 1), -2000),
            ((1, 10), 2000),
            ((1, 10), -2000),
            ((10 ** 2000, 1), 1),
            ((-(10 ** 2000), 1), 1),
            ((1, 10 ** 2000), -1),
            ((1, 10 ** 2000), 1),
            ((2, 1), 6644),
            ((3, 2), 10 ** 30),
            ((2, 3), 10 ** 30),
            ((2, 1), -(10 ** 30)),
        ):
            with self.assertRaises(NumberError):
                raised(one, exponent)

    def test_powers_of_1_and_0_stay_small(self):
        self.assertEqual(raised(ONE, 10 ** 30), ONE)
        self.assertEqual(raised(ONE, -(10 ** 30)), ONE)
        self.assertEqual(raised((-1, 1), 10 ** 30 + 1), (-1, 1))
        self.assertEqual(raised(ZERO, 10 ** 30), ZERO)
        self.assertEqual(raised((10 ** 3000, 7), 0), ONE)


class TextTest(unittest.TestCase):
    def test_texts(self):
        for one, text in (
            (ZERO, "0"),
            (ONE, "1"),
            ((-1, 1), "-1"),
            ((12, 1), "12"),
            ((1, 3), "1/3"),
            ((-7, 2), "-7/2"),
        ):
            self.assertEqual(rational_text(one), text)

    def test_2000_digits_are_not_too_many(self):
        digits = "9" * 2000
        self.assertEqual(rational_text((10 ** 2000 - 1, 1)), digits)
        self.assertEqual(rational_text((1 - 10 ** 2000, 1)), "-" + digits)
        self.assertEqual(rational_text((1, 10 ** 2000 - 1)), "1/" + digits)

    def test_more_than_2000_digits(self):
        for one in ((10 ** 2000, 1), (-(10 ** 2000), 1), (1, 10 ** 2000), (10 ** 9000, 1), (1, 10 ** 9000)):
            with self.assertRaises(NumberError):
                rational_text(one)


if __name__ == "__main__":
    unittest.main()
