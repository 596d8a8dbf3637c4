import unittest
from itertools import permutations

from algebrastack.errors import IdealError, PolyError
from algebrastack.ideals import (
    Growth,
    Ideal,
    elimination,
    in_radical,
    one_variable,
    plus_rows,
    put_in,
    same_ideal,
    scaled_row,
)
from algebrastack.terms import (
    ORDERS,
    Terms,
    constant,
    divides,
    joined,
    quotient,
    terms_power,
    terms_text,
    variable,
)

NAMES = ("x", "y", "z", "t")


def terms(*rows):
    """Return a polynomial of (whole number, exponents) rows."""
    return Terms(len(rows[0][1]), [(exponents, (number, 1)) for number, exponents in rows])


X, Y = variable(2, 0), variable(2, 1)
ONE = constant(2, (1, 1))
CIRCLE = terms((1, (2, 0)), (1, (0, 2)), (-5, (0, 0)))
HYPERBOLA = terms((1, (1, 1)), (-2, (0, 0)))
THREE = (
    terms((1, (2, 0, 0)), (1, (0, 1, 0)), (1, (0, 0, 1)), (-1, (0, 0, 0))),
    terms((1, (1, 0, 0)), (1, (0, 2, 0)), (1, (0, 0, 1)), (-1, (0, 0, 0))),
    terms((1, (1, 0, 0)), (1, (0, 1, 0)), (1, (0, 0, 2)), (-1, (0, 0, 0))),
)
TWISTED = (
    terms((1, (0, 1, 0)), (-1, (2, 0, 0))),
    terms((1, (0, 0, 1)), (-1, (3, 0, 0))),
)
KATSURA = (
    terms((1, (1, 0, 0, 0)), (2, (0, 1, 0, 0)), (2, (0, 0, 1, 0)), (2, (0, 0, 0, 1)), (-1, (0, 0, 0, 0))),
    terms((1, (2, 0, 0, 0)), (2, (0, 2, 0, 0)), (2, (0, 0, 2, 0)), (2, (0, 0, 0, 2)), (-1, (1, 0, 0, 0))),
    terms((2, (1, 1, 0, 0)), (2, (0, 1, 1, 0)), (2, (0, 0, 1, 1)), (-1, (0, 1, 0, 0))),
    terms((1, (0, 2, 0, 0)), (2, (1, 0, 1, 0)), (2, (0, 1, 0, 1)), (-1, (0, 0, 1, 0))),
)
CYCLIC = (
    terms((1, (1, 0, 0)), (1, (0, 1, 0)), (1, (0, 0, 1))),
    terms((1, (1, 1, 0)), (1, (0, 1, 1)), (1, (1, 0, 1))),
    terms((1, (1, 1, 1)), (-1, (0, 0, 0))),
)
SOME = (
    (CIRCLE, HYPERBOLA),
    (CIRCLE,),
    (X.times(X), X.times(Y)),
    (X, X.plus(ONE)),
    (Terms(2), CIRCLE),
    THREE,
    TWISTED,
    CYCLIC,
    KATSURA,
    (terms((3, (2, 1)), (-2, (0, 3)), (1, (1, 0))), terms((5, (1, 2)), (7, (3, 0)), (-1, (0, 0)))),
)


CYCLIC_FOUR = (
    terms((1, (1, 0, 0, 0)), (1, (0, 1, 0, 0)), (1, (0, 0, 1, 0)), (1, (0, 0, 0, 1))),
    terms((1, (1, 1, 0, 0)), (1, (0, 1, 1, 0)), (1, (0, 0, 1, 1)), (1, (1, 0, 0, 1))),
    terms((1, (1, 1, 1, 0)), (1, (0, 1, 1, 1)), (1, (1, 0, 1, 1)), (1, (1, 1, 0, 1))),
    terms((1, (1, 1, 1, 1)), (-1, (0, 0, 0, 0))),
)
SURFACE = (
    terms((1, (1, 0, 0, 0, 0)), (1, (1, 2, 0, 0, 0)), (-1, (3, 0, 0, 0, 0)), (-1, (0, 0, 1, 0, 0))),
    terms((1, (0, 1, 0, 0, 0)), (1, (2, 1, 0, 0, 0)), (-1, (0, 3, 0, 0, 0)), (-1, (0, 0, 0, 1, 0))),
    terms((1, (2, 0, 0, 0, 0)), (-1, (0, 2, 0, 0, 0)), (-1, (0, 0, 0, 0, 1))),
)


def left_of_pair(one, other, order):
    """Return what is left of two polynomials whose leading terms fall away."""
    (first, number), (second, factor) = one.lead(order), other.lead(order)
    both = joined(first, second)
    left = one.shifted(quotient(both, first), factor)
    return left.minus(other.shifted(quotient(both, second), number))


def powers_of_two(degree):
    """Return all terms of a degree in two variables: none of them divides another one."""
    return [terms((1, (place, degree - place))) for place in range(degree + 1)]


def sum_of(factors, generators):
    found = Terms(generators[0].many)
    for factor, generator in zip(factors, generators, strict=True):
        found = found.plus(factor.times(generator))
    return found


class BasisTest(unittest.TestCase):
    def texts(self, ideal):
        return [terms_text(one, NAMES, ideal.order) for one in ideal.basis]

    def test_fields(self):
        ideal = Ideal([CIRCLE, HYPERBOLA])
        self.assertEqual(ideal.generators, (CIRCLE, HYPERBOLA))
        self.assertEqual((ideal.order, ideal.many), ("grevlex", 2))
        self.assertIsInstance(ideal.basis, tuple)
        self.assertIsInstance(ideal.factors, tuple)
        self.assertEqual(Ideal((CIRCLE,), "lex").order, "lex")
        self.assertEqual(Ideal((CIRCLE,), order="grlex").order, "grlex")

    def test_the_basis_is_reduced_and_in_order(self):
        for generators in SOME:
            for order in ORDERS:
                basis = Ideal(generators, order).basis
                leads = [one.lead(order) for one in basis]
                self.assertEqual([number for _, number in leads], [(1, 1)] * len(basis))
                for place, one in enumerate(basis):
                    others = [lead for step, (lead, _) in enumerate(leads) if step != place]
                    for exponents in one.rows:
                        self.assertFalse(any(divides(lead, exponents) for lead in others))
                self.assertEqual([one.shown() for one in basis], sorted([one.shown() for one in basis]))

    def test_factors_prove_the_basis(self):
        for generators in SOME:
            for order in ORDERS:
                ideal = Ideal(generators, order)
                self.assertEqual(len(ideal.factors), len(ideal.basis))
                for one, row in zip(ideal.basis, ideal.factors):
                    self.assertEqual(sum_of(row, generators).shown(), one.shown())

    def test_nothing_is_left_of_pairs(self):
        for generators in SOME + (CYCLIC_FOUR, SURFACE):
            for order in ORDERS:
                ideal = Ideal(generators, order)
                for one in ideal.basis:
                    for other in ideal.basis:
                        self.assertTrue(ideal.has(left_of_pair(one, other, order)))
        self.assertEqual([len(Ideal(CYCLIC_FOUR, order).basis) for order in ORDERS], [6, 7, 7])
        self.assertEqual([len(Ideal(SURFACE, order).basis) for order in ORDERS], [8, 7, 6])

    def test_generators_are_members(self):
        for generators in SOME:
            for order in ORDERS:
                ideal = Ideal(generators, order)
                for one in generators:
                    self.assertTrue(ideal.has(one))

    def test_known_bases(self):
        self.assertEqual(self.texts(Ideal([CIRCLE, HYPERBOLA], "lex")), ["y^4 - 5*y^2 + 4", "x + 1/2*y^3 - 5/2*y"])
        self.assertEqual(
            self.texts(Ideal([CIRCLE, HYPERBOLA])), ["x^2 + y^2 - 5", "x*y - 2", "y^3 + 2*x - 5*y"]
        )
        self.assertEqual(self.texts(Ideal(TWISTED, "lex")), ["x*y - z", "y^3 - z^2", "x^2 - y", "x*z - y^2"])
        self.assertEqual(self.texts(Ideal(TWISTED)), ["x*y - z", "x^2 - y", "y^2 - x*z"])
        self.assertEqual(self.texts(Ideal(CYCLIC, "lex")), ["z^3 - 1", "x + y + z", "y^2 + y*z + z^2"])
        self.assertEqual(self.texts(Ideal([X, X.plus(ONE)], "lex")), ["1"])
        self.assertEqual(self.texts(Ideal([Terms(2), Terms(2)])), [])

    def test_the_same_generators_in_another_order_or_with_more(self):
        for generators in SOME[:8]:
            for order in ORDERS:
                plain = [one.shown() for one in Ideal(generators, order).basis]
                for turned in permutations(generators):
                    self.assertEqual([one.shown() for one in Ideal(turned, order).basis], plain)
                first, last = generators[0], generators[-1]
                more = list(generators) + [first.times(last), last, first.plus(last)]
                self.assertEqual([one.shown() for one in Ideal(more, order).basis], plain)

    def test_long_ways_to_lex(self):
        basis = Ideal(KATSURA, "lex").basis
        self.assertEqual(sorted(one.lead("lex")[0] for one in basis)[0], (0, 0, 0, 8))
        self.assertEqual(len(basis), 4)
        high = [terms((1, (900, 0)), (-1, (0, 0))), terms((1, (0, 900)), (-1, (1, 0)))]
        self.assertEqual(len(Ideal(high, "lex").basis), 2)

    def test_errors(self):
        with self.assertRaises(IdealError):
            Ideal(())
        with self.assertRaises(IdealError):
            Ideal([X, variable(3, 0)])
        for order in ("", "degree"):
            with self.assertRaises(PolyError):
                Ideal([X], order)
            with self.assertRaises(PolyError):
                Ideal([Terms(2)], order)

    def test_large_bases(self):
        self.assertEqual(len(Ideal(powers_of_two(59)).basis), 60)
        for order in ORDERS:
            with self.assertRaises(IdealError):
                Ideal(powers_of_two(60), order)
            with self.assertRaises(IdealError):
                Ideal(powers_of_two(110), order)
        many = 9
        ends = [(one, other) for one in range(many) for other in range(one + 1)]
        rows = [tuple([(place == one) + (place == other) for place in range(many)]) for one, other in ends]
        self.assertEqual(len(Ideal([terms((1, row)) for row in rows], "lex").basis), 45)
        with self.assertRaises(IdealError):
            Ideal(powers_in_four())

    def test_many_pairs(self):
        growth = Growth("lex")
        for place in range(51):
            growth.put((terms((1, (2 * place, 100 - 2 * place))), []))
        self.assertEqual((len(growth.standing), growth.pairs), (51, 1275))
        with self.assertRaises(IdealError):
            for place in range(40):
                # Each of these takes the place of an earlier one, so that the rows are as many as before.
                growth.put((terms((1, (2 * place, 99 - 2 * place))), []))
                self.assertEqual(len(growth.standing), 51)

    def test_rows(self):
        row = (X.plus(Y), [ONE, X])
        found = scaled_row(row, (1, 0), (2, 1))
        self.assertEqual(found[0].shown(), terms((2, (2, 0)), (2, (1, 1))).shown())
        self.assertEqual([one.shown() for one in found[1]], [terms((2, (1, 0))).shown(), terms((2, (2, 0))).shown()])
        both = plus_rows(row, found)
        self.assertEqual(both[0].shown(), X.plus(Y).plus(terms((2, (2, 0)), (2, (1, 1)))).shown())
        self.assertEqual(both[1][0].shown(), terms((1, (0, 0)), (2, (1, 0))).shown())
        self.assertIsInstance(found, tuple)
        self.assertIsInstance(both, tuple)

    def test_reduced_rows(self):
        ideal = Ideal([CIRCLE, HYPERBOLA], "lex")
        none = Terms(2)
        rows = [(CIRCLE, [ONE, none]), (HYPERBOLA, [none, ONE])]
        row = (CIRCLE.times(X).plus(HYPERBOLA.times(Y), (3, 1)).plus(Y), [X, Y.plus(Y).plus(Y)])
        rest, factors = ideal.reduced(row, rows)
        self.assertEqual(rest.minus(Y).shown(), sum_of(factors, (CIRCLE, HYPERBOLA)).shown())
        for exponents in rest.rows:
            self.assertFalse(any(divides(one.lead("lex")[0], exponents) for one in (CIRCLE, HYPERBOLA)))


def powers_in_four():
    """Return all terms of degree 6 in four variables: far more than sixty."""
    rows = [(a, b, c, 6 - a - b - c) for a in range(7) for b in range(7 - a) for c in range(7 - a - b)]
    return [terms((1, row)) for row in rows]


class MemberTest(unittest.TestCase):
    def test_members_and_others(self):
        for generators in SOME:
            for order in ORDERS:
                ideal = Ideal(generators, order)
                many = generators[0].many
                inside = Terms(many)
                for place, one in enumerate(generators):
                    inside = inside.plus(one.times(variable(many, place % many)), (place + 2, 3))
                for one in (inside, inside.plus(variable(many, 1)), Terms(many), constant(many, (7, 2))):
                    rest, factors = ideal.member(one)
                    self.assertEqual(len(factors), len(generators))
                    self.assertEqual(sum_of(factors, generators).plus(rest).shown(), one.shown())
                    self.assertEqual(ideal.has(one), rest.is_zero())
                    for exponents in rest.rows:
                        self.assertFalse(any(divides(row.lead(order)[0], exponents) for row in ideal.basis))
                self.assertTrue(ideal.has(inside))

    def test_what_is_no_member(self):
        ideal = Ideal([CIRCLE, HYPERBOLA])
        self.assertFalse(ideal.has(X))
        self.assertFalse(ideal.has(ONE))
        self.assertTrue(ideal.has(CIRCLE.times(X).minus(HYPERBOLA)))
        self.assertTrue(Ideal([Terms(2)]).has(Terms(2)))
        self.assertFalse(Ideal([Terms(2)]).has(X))

    def test_another_number_of_variables(self):
        ideal = Ideal([CIRCLE])
        for call in (ideal.member, ideal.has):
            with self.assertRaises(IdealError):
                call(variable(3, 0))

    def test_is_all(self):
        self.assertTrue(Ideal([X, X.plus(ONE)]).is_all())
        self.assertTrue(Ideal([constant(2, (3, 5))]).is_all())
        self.assertFalse(Ideal([CIRCLE, HYPERBOLA]).is_all())
        self.assertFalse(Ideal([Terms(2)]).is_all())

    def test_finitely_many_points(self):
        for order in ORDERS:
            self.assertTrue(Ideal([CIRCLE, HYPERBOLA], order).dimension_zero())
            self.assertFalse(Ideal([CIRCLE], order).dimension_zero())
            self.assertFalse(Ideal([X.times(Y), X.times(X)], order).dimension_zero())
            self.assertFalse(Ideal([Terms(2)], order).dimension_zero())
            self.assertTrue(Ideal([ONE], order).dimension_zero())
            # No real point at all, and yet finitely many of all numbers; and infinitely many, none of them real.
            points = [terms((1, (2, 0)), (1, (0, 0))), terms((1, (0, 2)), (3, (0, 0)))]
            self.assertTrue(Ideal(points, order).dimension_zero())
            self.assertFalse(Ideal([terms((1, (2, 0)), (1, (0, 2)), (1, (0, 0)))], order).dimension_zero())

    def test_standard_terms(self):
        self.assertEqual(Ideal([CIRCLE, HYPERBOLA]).standard(), ((0, 0), (0, 1), (0, 2), (1, 0)))
        self.assertEqual(Ideal([CIRCLE, HYPERBOLA], "lex").standard(), ((0, 0), (0, 1), (0, 2), (0, 3)))
        self.assertEqual(Ideal([ONE]).standard(), ())
        self.assertEqual(len(Ideal(KATSURA).standard()), 8)
        self.assertEqual(len(Ideal(CYCLIC, "grlex").standard()), 6)
        found = Ideal([terms((1, (3, 0))), terms((1, (1, 1))), terms((1, (0, 2)))]).standard()
        self.assertEqual(found, ((0, 0), (0, 1), (1, 0), (2, 0)))
        for generators in ([CIRCLE], [Terms(2)], [X.times(Y), X.times(X)]):
            with self.assertRaises(IdealError):
                Ideal(generators).standard()


class QuestionTest(unittest.TestCase):
    def test_the_same_members(self):
        one = Ideal([CIRCLE, HYPERBOLA], "lex")
        self.assertTrue(same_ideal(one, Ideal([HYPERBOLA, CIRCLE.plus(HYPERBOLA, (5, 1))], "grlex")))
        self.assertFalse(same_ideal(one, Ideal([CIRCLE])))
        self.assertFalse(same_ideal(Ideal([CIRCLE]), one))
        self.assertTrue(same_ideal(Ideal([X, X.plus(ONE)]), Ideal([ONE])))
        self.assertTrue(same_ideal(Ideal([Terms(2)]), Ideal([Terms(2), Terms(2)])))
        self.assertFalse(same_ideal(Ideal([X.times(X)]), Ideal([X])))
        self.assertFalse(same_ideal(Ideal([X]), Ideal([variable(3, 0)])))

    def test_elimination(self):
        found = elimination(TWISTED, 1)
        self.assertIsInstance(found, tuple)
        self.assertEqual([terms_text(one, NAMES, "lex") for one in found], ["y^3 - z^2"])
        found = elimination((CIRCLE, HYPERBOLA), 1)
        self.assertEqual([terms_text(one, NAMES, "lex") for one in found], ["y^4 - 5*y^2 + 4"])
        self.assertEqual(len(elimination((CIRCLE, HYPERBOLA), 0)), 2)
        self.assertEqual(elimination((CIRCLE,), 1), ())
        self.assertEqual(elimination((CIRCLE, HYPERBOLA), 2), ())
        self.assertEqual([one.shown() for one in elimination((X, ONE), 2)], [ONE.shown()])
        with self.assertRaises(IdealError):
            elimination((), 1)

    def test_radicals(self):
        both = X.times(Y)
        for generators, one, inside in (
            ((X.times(X),), X, True),
            ((X.times(X),), Y, False),
            ((X.times(X), terms_power(Y, 3)), X.plus(Y), True),
            ((X.times(X).times(Y),), both, True),
            ((X.times(X).times(Y),), X, False),
            ((CIRCLE, HYPERBOLA), CIRCLE.plus(HYPERBOLA), True),
            ((CIRCLE,), CIRCLE.plus(ONE), False),
            ((X, X.plus(ONE)), Y, True),
            ((CIRCLE,), Terms(2), True),
            ((Terms(2),), Terms(2), True),
            ((Terms(2),), ONE, False),
        ):
            self.assertEqual(in_radical(generators, one), inside)
            ideal = Ideal(generators)
            self.assertEqual(any(ideal.has(terms_power(one, exponent)) for exponent in range(1, 6)), inside)
        for generators, one in (((), X), ((X,), variable(3, 0)), ((X, variable(3, 0)), X)):
            with self.assertRaises(IdealError):
                in_radical(generators, one)

    def test_one_variable(self):
        one = terms((3, (0, 2)), (-1, (0, 0)))
        self.assertEqual(one_variable(one, 1), ((-1, 1), (0, 1), (3, 1)))
        self.assertEqual(one_variable(Terms(2), 0), ())
        self.assertEqual(one_variable(ONE, 0), ((1, 1),))
        self.assertEqual(one_variable(X, 0), ((0, 1), (1, 1)))
        for place, other in ((0, one), (0, CIRCLE), (1, HYPERBOLA), (1, X.plus(ONE))):
            with self.assertRaises(IdealError):
                one_variable(other, place)

    def test_put_in(self):
        found = put_in(CIRCLE, 0, (1, 2))
        self.assertEqual(found.shown(), Terms(2, (((0, 2), (1, 1)), ((0, 0), (-19, 4)))).shown())
        self.assertEqual(found.many, 2)
        self.assertEqual(put_in(HYPERBOLA, 1, (0, 1)).shown(), constant(2, (-2, 1)).shown())
        self.assertTrue(put_in(X.minus(ONE), 0, (1, 1)).is_zero())
        self.assertEqual(put_in(X, 1, (5, 1)).shown(), X.shown())


if __name__ == "__main__":
    unittest.main()
