import unittest
from fractions import Fraction
from itertools import product

from algebrastack.errors import PolyError
from algebrastack.terms import (
    ORDERS,
    Terms,
    constant,
    divided,
    divides,
    joined,
    order_key,
    power_text,
    quotient,
    terms_power,
    terms_text,
    variable,
)

NAMES = ("x", "y", "z")


def terms(*rows):
    """Return a polynomial of (whole number, exponents) rows."""
    return Terms(len(rows[0][1]), [(exponents, (number, 1)) for number, exponents in rows])


X, Y, Z = (variable(3, place) for place in range(3))
ONE = constant(3, (1, 1))
SOME = (
    Terms(3),
    ONE,
    X,
    X.plus(Y),
    X.times(Y).minus(Z).plus(ONE, (1, 2)),
    terms((2, (2, 1, 0)), (-3, (0, 0, 3)), (5, (1, 1, 1)), (7, (0, 0, 0))),
    terms((1, (0, 2, 0)), (-1, (1, 0, 1))),
)
POINTS = (((1, 1), (2, 1), (3, 1)), ((1, 2), (-2, 3), (0, 1)), ((5, 7), (1, 3), (-4, 1)))


class OrderTest(unittest.TestCase):
    def greater(self, order, one, other):
        return order_key(order, one) > order_key(order, other)

    def test_orders(self):
        self.assertEqual(ORDERS, ("lex", "grlex", "grevlex"))
        rows = [row for row in product(range(4), repeat=3) if sum(row) <= 3]
        for one in rows:
            for other in rows:
                self.assertEqual(self.greater("lex", one, other), one > other)
                self.assertEqual(self.greater("grlex", one, other), (sum(one), one) > (sum(other), other))
                gap = [left - right for left, right in zip(one, other) if left != right]
                last_is_lower = gap != [] and gap[-1] < 0
                larger = sum(one) > sum(other) or (sum(one) == sum(other) and last_is_lower)
                self.assertEqual(self.greater("grevlex", one, other), larger)
        self.assertIsInstance(order_key("grevlex", (1, 2)), tuple)

    def test_another_order(self):
        for order in ("", "revlex", "Lex"):
            with self.assertRaises(PolyError):
                order_key(order, (1, 2))
            with self.assertRaises(PolyError):
                X.lead(order)

    def test_leading_terms(self):
        one = terms((2, (1, 0, 2)), (3, (0, 3, 0)), (5, (1, 0, 0)), (7, (0, 2, 1)))
        self.assertEqual(one.lead("lex"), ((1, 0, 2), (2, 1)))
        self.assertEqual(one.lead("grlex"), ((1, 0, 2), (2, 1)))
        self.assertEqual(one.lead("grevlex"), ((0, 3, 0), (3, 1)))
        self.assertEqual(terms((1, (1, 0, 0)), (4, (0, 5, 0))).lead("lex"), ((1, 0, 0), (1, 1)))
        self.assertEqual(terms((1, (1, 0, 0)), (4, (0, 5, 0))).lead("grlex"), ((0, 5, 0), (4, 1)))
        for order in ORDERS:
            with self.assertRaises(PolyError):
                Terms(3).lead(order)
            with self.assertRaises(PolyError):
                Terms(3).monic(order)

    def test_monic(self):
        one = terms((2, (1, 0, 2)), (4, (0, 3, 0)))
        self.assertEqual(one.monic("lex").shown(), (((0, 3, 0), (2, 1)), ((1, 0, 2), (1, 1))))
        self.assertEqual(one.monic("grevlex").shown(), (((0, 3, 0), (1, 1)), ((1, 0, 2), (1, 2))))


class TermsTest(unittest.TestCase):
    def test_fields_and_rows(self):
        one = Terms(2, [((1, 0), (1, 2)), ((0, 0), (0, 1)), ((0, 3), (-2, 1))])
        self.assertEqual(one.many, 2)
        self.assertEqual(one.rows, {(1, 0): (1, 2), (0, 3): (-2, 1)})
        self.assertEqual(one.shown(), (((0, 3), (-2, 1)), ((1, 0), (1, 2))))
        self.assertEqual((Terms(2).rows, Terms(2).shown()), ({}, ()))

    def test_rows_told_twice_are_added(self):
        one = Terms(1, (((2,), (1, 2)), ((2,), (1, 3)), ((1,), (1, 1)), ((1,), (-1, 1))))
        self.assertEqual(one.rows, {(2,): (5, 6)})

    def test_other_exponents(self):
        for row in ((1,), (1, 2, 3), (), (-1, 0), (1, -1)):
            with self.assertRaises(PolyError):
                Terms(2, ((row, (1, 1)),))
        with self.assertRaises(PolyError):
            Terms(2, (((1, 1), (1, 1)), ((1, -1), (0, 1))))

    def test_is_zero(self):
        self.assertTrue(Terms(3).is_zero())
        self.assertTrue(X.minus(X).is_zero())
        self.assertTrue(constant(3, (0, 1)).is_zero())
        self.assertFalse(ONE.is_zero())

    def test_reckoning_by_values(self):
        for one in SOME:
            for other in SOME:
                for point in POINTS:
                    left, right = Fraction(*one.value_at(point)), Fraction(*other.value_at(point))
                    self.assertEqual(Fraction(*one.plus(other).value_at(point)), left + right)
                    self.assertEqual(Fraction(*one.plus(other, (-3, 5)).value_at(point)), left - right * Fraction(3, 5))
                    self.assertEqual(Fraction(*one.minus(other).value_at(point)), left - right)
                    self.assertEqual(Fraction(*one.times(other).value_at(point)), left * right)

    def test_no_0_is_left(self):
        for one in SOME:
            for found in (one.minus(one), one.plus(X).minus(X), one.times(Terms(3)), one.plus(one, (-1, 1))):
                self.assertNotIn((0, 1), found.rows.values())
        self.assertEqual(X.plus(Y).times(X.minus(Y)).rows, {(2, 0, 0): (1, 1), (0, 2, 0): (-1, 1)})
        self.assertEqual(X.plus(Y, (0, 1)).shown(), X.shown())

    def test_arguments_stay_as_they_are(self):
        one, other = terms((1, (1, 0, 0))), terms((2, (1, 0, 0)))
        one.plus(other)
        one.times(other)
        divided(one, (other,), "lex")
        self.assertEqual((one.rows, other.rows), ({(1, 0, 0): (1, 1)}, {(1, 0, 0): (2, 1)}))

    def test_other_variables(self):
        other = variable(2, 0)
        for call in (X.plus, X.minus, X.times):
            with self.assertRaises(PolyError):
                call(other)
        for point in ((), ((1, 1),), ((1, 1),) * 4):
            with self.assertRaises(PolyError):
                X.value_at(point)
        for place in (-1, 3):
            with self.assertRaises(PolyError):
                variable(3, place)

    def test_products_with_a_term(self):
        one = terms((2, (1, 0, 2)), (3, (0, 0, 0)))
        self.assertEqual(one.shifted((0, 1, 1), (1, 2)).rows, {(1, 1, 3): (1, 1), (0, 1, 1): (3, 2)})
        self.assertTrue(one.shifted((1, 1, 1), (0, 1)).is_zero())
        for exponents in ((1,), (1, 1, 1, 1)):
            with self.assertRaises(PolyError):
                one.shifted(exponents, (1, 1))

    def test_degrees(self):
        self.assertEqual([one.degree() for one in SOME], [-1, 0, 1, 1, 2, 3, 2])

    def test_derivatives(self):
        one = terms((2, (3, 1, 0)), (5, (0, 2, 0)), (7, (0, 0, 0)))
        self.assertEqual(one.derivative(0).rows, {(2, 1, 0): (6, 1)})
        self.assertEqual(one.derivative(1).rows, {(3, 0, 0): (2, 1), (0, 1, 0): (10, 1)})
        self.assertTrue(one.derivative(2).is_zero())

    def test_values(self):
        one = terms((2, (3, 1, 0)), (5, (0, 2, 0)), (7, (0, 0, 0)))
        self.assertEqual(one.value_at(((1, 2), (2, 3), (9, 1))), (169, 18))
        self.assertEqual(Terms(3).value_at(((1, 2), (2, 3), (9, 1))), (0, 1))
        self.assertEqual(Terms(0, (((), (3, 4)),)).value_at(()), (3, 4))

    def test_constants_variables_and_powers(self):
        self.assertEqual(constant(2, (3, 4)).rows, {(0, 0): (3, 4)})
        self.assertEqual(variable(3, 1).rows, {(0, 1, 0): (1, 1)})
        self.assertEqual(terms_power(X.plus(Y), 0).shown(), ONE.shown())
        self.assertEqual(terms_power(Terms(3), 0).shown(), ONE.shown())
        self.assertTrue(terms_power(Terms(3), 2).is_zero())
        found = ONE
        for exponent in range(6):
            self.assertEqual(terms_power(SOME[5], exponent).shown(), found.shown())
            found = found.times(SOME[5])

    def test_exponents(self):
        self.assertTrue(divides((1, 0, 2), (1, 3, 2)))
        self.assertFalse(divides((1, 0, 3), (1, 3, 2)))
        self.assertTrue(divides((), ()))
        self.assertEqual(quotient((1, 3, 2), (1, 0, 2)), (0, 3, 0))
        self.assertEqual(joined((1, 3, 0), (2, 0, 0)), (2, 3, 0))


class DivisionTest(unittest.TestCase):
    def check(self, one, others, order):
        found = divided(one, others, order)
        self.assertIsInstance(found, tuple)
        quotients, rest = found
        self.assertEqual(len(quotients), len(others))
        whole = rest
        for part, other in zip(quotients, others):
            whole = whole.plus(part.times(other))
        self.assertEqual(whole.shown(), one.shown())
        for exponents in rest.rows:
            self.assertFalse(any(divides(other.lead(order)[0], exponents) for other in others))

    def test_quotients_and_remainder_give_the_polynomial_back(self):
        others = [one for one in SOME[2:]]
        for order in ORDERS:
            for one in SOME:
                for other in SOME:
                    whole = one.times(other).plus(X.times(Z), (2, 3))
                    self.check(whole, others, order)
                    self.check(whole, others[::-1], order)
                    self.check(whole, (), order)

    def test_the_first_divisor_is_taken(self):
        one = terms((1, (2, 1, 0)), (1, (1, 2, 0)), (1, (0, 2, 0)))
        first, second = terms((1, (1, 1, 0)), (-1, (0, 0, 0))), terms((1, (0, 2, 0)), (-1, (0, 0, 0)))
        quotients, rest = divided(one, (first, second), "lex")
        self.assertEqual([part.shown() for part in quotients], [X.plus(Y).shown(), ONE.shown()])
        self.assertEqual(rest.shown(), X.plus(Y).plus(ONE).shown())
        quotients, rest = divided(one, (second, first), "lex")
        self.assertEqual([part.shown() for part in quotients], [X.plus(ONE).shown(), X.shown()])
        self.assertEqual(rest.shown(), terms((2, (1, 0, 0)), (1, (0, 0, 0))).shown())

    def test_a_division_by_0(self):
        with self.assertRaises(PolyError):
            divided(X, (Y, Terms(3)), "lex")
        with self.assertRaises(PolyError):
            divided(X, (Y,), "other")


class TextTest(unittest.TestCase):
    def test_powers(self):
        self.assertEqual([power_text("x", exponent) for exponent in (1, 2, 13)], ["x", "x^2", "x^13"])

    def test_texts(self):
        for rows, text in (
            (((1, (1, 0, 0)),), "x"),
            (((-1, (1, 0, 0)),), "-x"),
            (((-2, (2, 1, 0)), (1, (0, 0, 0))), "-2*x^2*y + 1"),
            (((1, (0, 0, 0)),), "1"),
            (((-1, (0, 0, 0)),), "-1"),
            (((1, (1, 1, 0)), (-1, (0, 0, 1)), (-3, (0, 0, 0))), "x*y - z - 3"),
            (((5, (0, 0, 1)), (1, (0, 2, 0)), (-1, (1, 0, 0))), "y^2 - x + 5*z"),
        ):
            self.assertEqual(terms_text(terms(*rows), NAMES), text)
        self.assertEqual(terms_text(Terms(3), NAMES), "0")
        self.assertEqual(terms_text(terms((0, (0, 0, 0))), NAMES), "0")

    def test_fractions(self):
        one = Terms(2, (((2, 0), (-1, 2)), ((0, 1), (2, 3)), ((0, 0), (-7, 5))))
        self.assertEqual(terms_text(one, ("a", "b")), "-1/2*a^2 + 2/3*b - 7/5")

    def test_orders(self):
        one = terms((1, (1, 0, 2)), (1, (0, 3, 0)), (1, (1, 0, 0)), (1, (0, 0, 5)))
        self.assertEqual(terms_text(one, NAMES, "lex"), "x*z^2 + x + y^3 + z^5")
        self.assertEqual(terms_text(one, NAMES, "grlex"), "z^5 + x*z^2 + y^3 + x")
        self.assertEqual(terms_text(one, NAMES, "grevlex"), "z^5 + y^3 + x*z^2 + x")
        self.assertEqual(terms_text(one, NAMES), terms_text(one, NAMES, "grlex"))


if __name__ == "__main__":
    unittest.main()
