import unittest
from fractions import Fraction

from algebrastack.errors import NumberError, PolyError
from algebrastack.fractions import (
    Quotient,
    by_powers,
    integral,
    integrated,
    parted,
    residue,
)
from algebrastack.polys import (
    Field,
    degree_of,
    poly,
    poly_common,
    poly_divided,
    poly_power,
    poly_times,
    slope_of,
    square_free_parts,
)

Q = Field()
ONE = ((1, 1),)


def fractions(*numbers):
    return poly(Q, numbers)


def product_of(*parts):
    found = ONE
    for part in parts:
        found = poly_times(Q, found, part)
    return found


X = fractions(0, 1)
LEFT, RIGHT, ROUND = fractions(-1, 1), fractions(1, 1), fractions(1, 0, 1)
SOME = (
    Quotient(()),
    Quotient(fractions(3)),
    Quotient(fractions(1, 2, 3)),
    Quotient(ONE, X),
    Quotient(fractions(2, 0, 1), product_of(LEFT, RIGHT)),
    Quotient(fractions(5, 1), poly_power(Q, ROUND, 2)),
    Quotient(fractions(1, 2, 3, 4, 5), product_of(poly_power(Q, LEFT, 3), RIGHT, ROUND)),
    Quotient(fractions(0, 0, 0, 0, 0, 0, 0, 1), product_of(poly_power(Q, X, 2), poly_power(Q, fractions(1, 3), 4))),
    Quotient(fractions(-7, 0, 2), product_of(poly_power(Q, ROUND, 3), poly_power(Q, fractions(-2, 0, 1), 3))),
    Quotient(fractions(1, 0, 0, 1), poly_power(Q, fractions(1, 1, 1), 2)),
)
POINTS = ((7, 1), (-3, 5), (11, 4), (-9, 2))


class QuotientTest(unittest.TestCase):
    def check(self, one):
        self.assertEqual(one.below[-1], (1, 1))
        self.assertEqual(poly_common(Q, one.above, one.below), ONE)
        self.assertEqual(one.shown(), (one.above, one.below))

    def test_lowest_terms_with_1_as_leading_coefficient_below(self):
        one = Quotient(fractions(-2, 0, 2), fractions(6, 4))
        self.assertEqual(one.shown(), (((-1, 2), (0, 1), (1, 2)), ((3, 2), (1, 1))))
        one = Quotient(product_of(LEFT, RIGHT), product_of(RIGHT, RIGHT, fractions(2)))
        self.assertEqual((one.above, one.below), (((-1, 2), (1, 2)), RIGHT))
        self.assertEqual(Quotient(fractions(4, 6), fractions(-2)).shown(), (fractions(-2, -3), ONE))
        self.assertEqual(Quotient((), fractions(1, 5)).shown(), ((), ONE))
        self.assertEqual(Quotient(X).shown(), (X, ONE))
        self.assertEqual(Quotient(X, ((2, 1),)).shown(), (((0, 1), (1, 2)), ONE))

    def test_0_below(self):
        for above in ((), ONE, X):
            with self.assertRaises(NumberError):
                Quotient(above, ())

    def test_reckoning_by_values(self):
        for one in SOME:
            for other in SOME:
                for found, reckon in (
                    (one.added(other), lambda a, b: a + b),
                    (one.multiplied(other), lambda a, b: a * b),
                    (one.negated(), lambda a, b: -a),
                ):
                    self.check(found)
                    for point in POINTS:
                        left, right = Fraction(*one.at(point)), Fraction(*other.at(point))
                        self.assertEqual(Fraction(*found.at(point)), reckon(left, right))

    def test_inverses_and_powers(self):
        for one in SOME[1:]:
            self.check(one.turned())
            self.assertEqual(one.multiplied(one.turned()).shown(), (ONE, ONE))
            whole = Quotient(ONE)
            for exponent in range(4):
                self.assertEqual(one.raised_to(exponent).shown(), whole.shown())
                self.assertEqual(one.raised_to(-exponent).shown(), whole.turned().shown())
                whole = whole.multiplied(one)
        self.assertEqual(Quotient(()).raised_to(0).shown(), (ONE, ONE))
        self.assertEqual(Quotient(()).raised_to(3).shown(), ((), ONE))

    def test_what_0_has_not(self):
        with self.assertRaises(NumberError):
            Quotient(()).turned()
        for exponent in (-1, -5):
            with self.assertRaises(NumberError):
                Quotient(()).raised_to(exponent)

    def test_slopes(self):
        self.assertEqual(Quotient(ONE, X).slope().shown(), (fractions(-1), fractions(0, 0, 1)))
        self.assertEqual(Quotient(fractions(1, 2, 3)).slope().shown(), (fractions(2, 6), ONE))
        self.assertEqual(Quotient(fractions(5)).slope().shown(), ((), ONE))
        for one in SOME:
            for other in SOME:
                both = one.multiplied(other).slope()
                self.check(both)
                parts = one.slope().multiplied(other).added(one.multiplied(other.slope()))
                self.assertEqual(both.shown(), parts.shown())

    def test_values(self):
        one = Quotient(fractions(1, 0, 1), LEFT)
        self.assertEqual(one.at((1, 2)), (-5, 2))
        self.assertEqual(one.at((3, 1)), (5, 1))
        with self.assertRaises(NumberError):
            one.at((1, 1))


class PartsTest(unittest.TestCase):
    def sum_of(self, whole, rows):
        found = Quotient(whole)
        for above, below, exponent in rows:
            found = found.added(Quotient(above, poly_power(Q, below, exponent)))
        return found.shown()

    def test_parts_add_up_to_the_quotient(self):
        for one in SOME:
            found = parted(one)
            self.assertIsInstance(found, tuple)
            whole, rows = found
            self.assertEqual(self.sum_of(whole, rows), one.shown())
            self.assertEqual(whole, poly_divided(Q, one.above, one.below)[0])
            parts = dict(square_free_parts(one.below))
            for above, below, exponent in rows:
                self.assertNotEqual(above, ())
                self.assertLess(degree_of(above), degree_of(below))
                self.assertTrue(1 <= exponent <= parts[below])
            self.assertEqual(len({(below, exponent) for _, below, exponent in rows}), len(rows))

    def test_known_parts(self):
        one = Quotient(fractions(0, 0, 0, 1), product_of(LEFT, RIGHT, RIGHT))
        self.assertEqual(
            parted(one), (ONE, ((((1, 4),), LEFT, 1), (((-5, 4),), RIGHT, 1), (((1, 2),), RIGHT, 2)))
        )
        self.assertEqual(parted(Quotient(X)), (X, ()))
        self.assertEqual(parted(Quotient(())), ((), ()))
        both = product_of(LEFT, RIGHT)
        self.assertEqual(parted(Quotient(ONE, both)), ((), ((ONE, both, 1),)))

    def test_by_powers(self):
        found = by_powers(fractions(1, 2, 3, 4), ROUND, 2)
        self.assertIsInstance(found, list)
        self.assertEqual(found, [(fractions(3, 4), ROUND, 1), (fractions(-2, -2), ROUND, 2)])
        self.assertEqual(by_powers(fractions(2), LEFT, 3), [(fractions(2), LEFT, 3)])
        self.assertEqual(by_powers((), LEFT, 3), [])
        for above in (fractions(5, 0, 1), fractions(0, 1, 2, 3, 4, 5)):
            for exponent in (1, 2, 3, 4):
                rows = by_powers(above, ROUND, exponent)
                self.assertEqual(self.sum_of((), rows), Quotient(above, poly_power(Q, ROUND, exponent)).shown())
                self.assertEqual([row[2] for row in rows], sorted({row[2] for row in rows}))


class IntegralTest(unittest.TestCase):
    def test_polynomials(self):
        self.assertEqual(integrated(fractions(1, 2, 3)), fractions(0, 1, 1, 1))
        self.assertEqual(integrated(((0, 1), (1, 1))), ((0, 1), (0, 1), (1, 2)))
        self.assertEqual(integrated(()), ())
        for one in (fractions(7), fractions(0, 0, 5, 1), ((1, 3), (2, 7))):
            self.assertEqual(slope_of(Q, integrated(one)), one)
            self.assertEqual(integrated(one)[0], (0, 1))

    def test_the_slope_plus_the_rest_is_the_quotient(self):
        for one in SOME:
            found = integral(one)
            self.assertIsInstance(found, tuple)
            first, (above, below) = found
            self.assertEqual(first.slope().added(Quotient(above, below)).shown(), one.shown())
            self.assertEqual(poly_common(Q, below, slope_of(Q, below)), ONE)
            self.assertLess(degree_of(above), degree_of(below))
            whole = poly_divided(Q, first.above, first.below)[0]
            self.assertTrue(whole == () or whole[0] == (0, 1))

    def test_slopes_leave_nothing(self):
        for one in SOME:
            first, rest = integral(one.slope())
            self.assertEqual(rest[0], ())
            self.assertEqual(degree_of(first.added(one.negated()).above), degree_of(integral_constant(one)))

    def test_known_ones(self):
        first, rest = integral(Quotient(ONE, poly_power(Q, ROUND, 2)))
        self.assertEqual(first.shown(), (((0, 1), (1, 2)), ROUND))
        self.assertEqual(Quotient(*rest).shown(), (((1, 2),), ROUND))
        first, rest = integral(Quotient(ONE, X))
        self.assertEqual((first.shown(), Quotient(*rest).shown()), (((), ONE), (ONE, X)))
        first, rest = integral(Quotient(fractions(0, 2)))
        self.assertEqual((first.shown(), rest[0]), ((fractions(0, 0, 1), ONE), ()))

    def test_residues(self):
        one = Quotient(fractions(3, 1), product_of(LEFT, RIGHT))
        self.assertEqual(residue(one, (1, 1)), (2, 1))
        self.assertEqual(residue(one, (-1, 1)), (-1, 1))
        self.assertEqual(residue(one, (5, 1)), (0, 1))
        self.assertEqual(residue(Quotient(fractions(0, 0, 1)), (5, 1)), (0, 1))
        # What is 0 above too does not count.
        self.assertEqual(residue(Quotient(LEFT, product_of(LEFT, LEFT, RIGHT)), (1, 1)), (1, 2))
        for many in (2, 3):
            with self.assertRaises(PolyError):
                residue(Quotient(ONE, poly_power(Q, LEFT, many)), (1, 1))


def integral_constant(one):
    """Return the constant of a quotient's polynomial part, as a polynomial."""
    whole = poly_divided(Q, one.above, one.below)[0]
    return whole[:1] if whole[:1] != ((0, 1),) else ()


if __name__ == "__main__":
    unittest.main()
