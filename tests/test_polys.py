import unittest
from fractions import Fraction
from itertools import product

from algebrastack.errors import NumberError, PolyError
from algebrastack.polys import (
    Field,
    composed,
    degree_of,
    lead_of,
    monic_of,
    poly,
    poly_bezout,
    poly_common,
    poly_divided,
    poly_minus,
    poly_plus,
    poly_power,
    poly_times,
    poly_value,
    resultant,
    scaled,
    slope_of,
    square_free_parts,
    through,
    trimmed,
    whole_form,
)

Q = Field()
FIELDS = (Q, Field(2), Field(3), Field(7))


def some_polys(field):
    """Return polynomials of degrees up to 2, and a few longer ones."""
    numbers = (-2, 0, 1, 3)
    rows = [()] + [row for many in (1, 2, 3) for row in product(numbers, repeat=many)]
    rows += [(1, 0, 0, 1), (-1, 0, 0, 0, 1), (2, -3, 0, 1), (1, 2, 3, 4, 5)]
    found = []
    for row in rows:
        one = poly(field, row)
        if one not in found:
            found.append(one)
    if field is Q:
        found += [((1, 2), (2, 3)), ((1, 1), (-3, 4), (1, 5))]
    return found


def few_polys(field):
    return some_polys(field)[::5] + some_polys(field)[-4:]


def points_of(field):
    return [field.over(field.number(k), field.number(1)) for k in range(-3, 4)]


class FieldTest(unittest.TestCase):
    def test_fields_that_are_read(self):
        self.assertEqual((Q.prime, Q.zero, Q.one), (None, (0, 1), (1, 1)))
        seven = Field(7)
        self.assertEqual((seven.prime, seven.zero, seven.one), (7, 0, 1))
        self.assertEqual(Field(prime=2).prime, 2)
        self.assertIsNone(Field(None).prime)

    def test_fractions(self):
        self.assertEqual(Q.plus((1, 2), (1, 3)), (5, 6))
        self.assertEqual(Q.minus((1, 2), (1, 2)), (0, 1))
        self.assertEqual(Q.times((2, 3), (3, 4)), (1, 2))
        self.assertEqual(Q.over((1, 2), (-3, 4)), (-2, 3))
        self.assertEqual(Q.number(-4), (-4, 1))

    def test_remainders_by_a_prime(self):
        for prime in (2, 3, 5, 7):
            field = Field(prime)
            for one in range(prime):
                for other in range(prime):
                    self.assertEqual(field.plus(one, other), (one + other) % prime)
                    self.assertEqual(field.minus(one, other), (one - other) % prime)
                    self.assertEqual(field.times(one, other), one * other % prime)
                    if other != 0:
                        found = field.over(one, other)
                        self.assertIn(found, range(prime))
                        self.assertEqual(found * other % prime, one)
        self.assertEqual(Field(7).number(-1), 6)
        self.assertEqual(Field(7).number(15), 1)

    def test_a_division_by_0(self):
        for field in FIELDS:
            for one in (field.zero, field.one):
                with self.assertRaises(NumberError):
                    field.over(one, field.zero)


class ShapeTest(unittest.TestCase):
    def test_no_0_at_the_end(self):
        self.assertEqual(trimmed(Q, [(1, 2), (0, 1), (0, 1)]), ((1, 2),))
        self.assertEqual(trimmed(Q, ((0, 1), (1, 1))), ((0, 1), (1, 1)))
        self.assertEqual(trimmed(Q, [(0, 1)]), ())
        self.assertEqual(trimmed(Q, []), ())
        self.assertEqual(trimmed(Field(5), [0, 3, 0]), (0, 3))
        self.assertEqual(trimmed(Field(5), (0, 0)), ())

    def test_polynomials_of_whole_coefficients(self):
        self.assertEqual(poly(Q, [1, -2, 0]), ((1, 1), (-2, 1)))
        self.assertEqual(poly(Q, ()), ())
        self.assertEqual(poly(Field(5), [6, -1, 10]), (1, 4))
        self.assertEqual(poly(Field(5), (5, 10)), ())

    def test_degrees(self):
        for field in FIELDS:
            self.assertEqual(degree_of(()), -1)
            self.assertEqual(degree_of(poly(field, [1])), 0)
            self.assertEqual(degree_of(poly(field, [0, 0, 1])), 2)

    def test_leading_coefficients(self):
        self.assertEqual(lead_of(poly(Q, [1, 2, -3])), (-3, 1))
        self.assertEqual(lead_of(poly(Field(7), [1, 2, -3])), 4)
        with self.assertRaises(PolyError):
            lead_of(())


class ReckoningTest(unittest.TestCase):
    def check_poly(self, field, one):
        self.assertIsInstance(one, tuple)
        if one != ():
            self.assertNotEqual(one[-1], field.zero)
        for number in one:
            if field is Q:
                self.assertEqual(number, (Fraction(*number).numerator, Fraction(*number).denominator))
            else:
                self.assertIn(number, range(field.prime))

    def check_values(self, field, found, reckon):
        self.check_poly(field, found)
        for point in points_of(field):
            self.assertEqual(poly_value(field, found, point), reckon(point))

    def test_sums_differences_and_products(self):
        for field in FIELDS:
            for one in few_polys(field):
                for other in few_polys(field):
                    self.compare(field, one, other)

    def compare(self, field, one, other):
        for found, reckon in (
            (poly_plus(field, one, other), field.plus),
            (poly_minus(field, one, other), field.minus),
            (poly_times(field, one, other), field.times),
        ):
            self.check_values(
                field, found, lambda at: reckon(poly_value(field, one, at), poly_value(field, other, at))
            )

    def test_coefficients_of_sums_and_products(self):
        one, other = poly(Q, [1, 2, 3]), poly(Q, [4, 5, -3])
        self.assertEqual(poly_plus(Q, one, other), poly(Q, [5, 7]))
        self.assertEqual(poly_plus(Q, other, poly(Q, [0, 0, 0, 9])), poly(Q, [4, 5, -3, 9]))
        self.assertEqual(poly_minus(Q, one, one), ())
        self.assertEqual(poly_minus(Q, (), one), poly(Q, [-1, -2, -3]))
        self.assertEqual(poly_times(Q, one, other), poly(Q, [4, 13, 19, 9, -9]))
        self.assertEqual(poly_times(Q, one, ()), ())
        three = Field(3)
        self.assertEqual(poly_plus(three, (1, 2), (1, 1)), (2,))
        self.assertEqual(poly_minus(three, (1, 2, 1), (2, 2)), (2, 0, 1))
        self.assertEqual(poly_times(three, (1, 1), (1, 2)), (1, 0, 2))

    def test_multiples(self):
        self.assertEqual(scaled(Q, poly(Q, [2, 4]), (1, 2)), poly(Q, [1, 2]))
        self.assertEqual(scaled(Q, poly(Q, [2, 4]), (0, 1)), ())
        self.assertEqual(scaled(Field(5), (1, 2), 3), (3, 1))
        self.assertEqual(scaled(Field(5), (1, 2), 0), ())
        self.assertEqual(scaled(Q, (), (1, 2)), ())

    def test_quotients_and_remainders(self):
        for field in FIELDS:
            for one in some_polys(field):
                for other in few_polys(field):
                    if other == ():
                        continue
                    quotient, rest = poly_divided(field, one, other)
                    self.check_poly(field, quotient)
                    self.check_poly(field, rest)
                    self.assertLess(degree_of(rest), degree_of(other))
                    self.assertEqual(poly_plus(field, poly_times(field, quotient, other), rest), one)

    def test_a_division(self):
        one, other = poly(Q, [1, 0, 0, 2]), poly(Q, [1, 4])
        found = poly_divided(Q, one, other)
        self.assertIsInstance(found, tuple)
        self.assertEqual(found, (((1, 32), (-1, 8), (1, 2)), ((31, 32),)))
        self.assertEqual(poly_divided(Q, other, one), ((), other))
        self.assertEqual(poly_divided(Field(3), (1, 0, 1), (2, 2)), ((1, 2), (2,)))

    def test_a_division_by_0(self):
        for field in FIELDS:
            for one in ((), poly(field, [1, 1])):
                with self.assertRaises(NumberError):
                    poly_divided(field, one, ())

    def test_leading_coefficients_of_1(self):
        self.assertEqual(monic_of(Q, poly(Q, [1, 2])), ((1, 2), (1, 1)))
        self.assertEqual(monic_of(Field(5), (1, 2)), (3, 1))
        self.assertEqual(monic_of(Q, ()), ())
        self.assertEqual(monic_of(Field(5), ()), ())

    def test_slopes(self):
        self.assertEqual(slope_of(Q, poly(Q, [5, 3, 2, 1])), poly(Q, [3, 4, 3]))
        self.assertEqual(slope_of(Q, poly(Q, [5])), ())
        self.assertEqual(slope_of(Q, ()), ())
        self.assertEqual(slope_of(Field(3), (1, 1, 1, 1)), (1, 2))
        self.assertEqual(slope_of(Field(2), (1, 0, 1)), ())

    def test_values(self):
        self.assertEqual(poly_value(Q, poly(Q, [1, 2, 3]), (1, 2)), (11, 4))
        self.assertEqual(poly_value(Q, (), (5, 1)), (0, 1))
        self.assertEqual(poly_value(Field(7), (1, 2, 3), 4), 1)
        self.assertEqual(poly_value(Field(7), (), 4), 0)

    def test_compositions(self):
        for field in FIELDS:
            for one in few_polys(field):
                for other in few_polys(field):
                    self.check_values(
                        field,
                        composed(field, one, other),
                        lambda at: poly_value(field, one, poly_value(field, other, at)),
                    )
        self.assertEqual(composed(Q, poly(Q, [1, 0, 2]), poly(Q, [3, 1])), poly(Q, [19, 12, 2]))
        self.assertEqual(composed(Q, poly(Q, [1, 2]), ()), poly(Q, [1]))
        self.assertEqual(composed(Q, (), poly(Q, [1, 2])), ())
        self.assertEqual(composed(Field(5), (1, 0, 2), (3, 1)), (4, 2, 2))

    def test_powers(self):
        for field in FIELDS:
            for one in few_polys(field):
                found = (field.one,)
                for exponent in range(6):
                    self.assertEqual(poly_power(field, one, exponent), found)
                    found = poly_times(field, found, one)
        self.assertEqual(poly_power(Q, (), 0), poly(Q, [1]))
        self.assertEqual(poly_power(Field(3), (1, 1), 3), (1, 0, 0, 1))


class CommonTest(unittest.TestCase):
    def test_divisors_have_1_as_leading_coefficient(self):
        for field in FIELDS:
            for one in few_polys(field):
                for other in few_polys(field):
                    for factor in (poly(field, [1]), poly(field, [1, -2]), poly(field, [1, 0, 1])):
                        self.check(field, poly_times(field, one, factor), poly_times(field, other, factor), factor)

    def check(self, field, one, other, factor):
        found = poly_common(field, one, other)
        divisor, a, b = poly_bezout(field, one, other)
        self.assertEqual(found, divisor)
        joined = poly_plus(field, poly_times(field, one, a), poly_times(field, other, b))
        self.assertEqual(joined, divisor, (one, other))
        if one == () and other == ():
            self.assertEqual(found, ())
            return
        self.assertEqual(lead_of(found), field.one)
        for divided, by in ((one, found), (other, found), (found, factor)):
            self.assertEqual(poly_divided(field, divided, by)[1], ())

    def test_common_divisors(self):
        one = poly_times(Q, poly(Q, [-2, 1]), poly(Q, [3, 6]))
        other = poly_times(Q, poly(Q, [5, 10]), poly(Q, [1, 0, 1]))
        self.assertEqual(poly_common(Q, one, other), ((1, 2), (1, 1)))
        self.assertEqual(poly_common(Q, poly(Q, [4]), poly(Q, [6])), poly(Q, [1]))
        self.assertEqual(poly_common(Q, poly(Q, [1, 1]), poly(Q, [2, 1])), poly(Q, [1]))
        self.assertEqual(poly_common(Field(5), (1, 0, 4), (2, 2)), (1, 1))
        self.assertEqual(poly_common(Field(2), (1, 0, 1), (1, 1)), (1, 1))

    def test_common_divisors_of_0(self):
        for field in FIELDS:
            self.assertEqual(poly_common(field, (), ()), ())
            self.assertEqual(poly_bezout(field, (), ())[0], ())
        self.assertEqual(poly_common(Q, (), poly(Q, [2, 4])), ((1, 2), (1, 1)))
        self.assertEqual(poly_common(Q, poly(Q, [2, 4]), ()), ((1, 2), (1, 1)))
        self.assertEqual(poly_common(Field(5), (), (1, 2)), (3, 1))
        self.assertEqual(poly_common(Field(5), (1, 2), ()), (3, 1))

    def test_bezout_is_a_tuple_of_polynomials(self):
        found = poly_bezout(Q, poly(Q, [-1, 0, 1]), poly(Q, [2, 2]))
        self.assertIsInstance(found, tuple)
        self.assertEqual(found, (poly(Q, [1, 1]), (), ((1, 2),)))
        self.assertEqual(poly_bezout(Field(7), (0, 1), (1, 1)), ((1,), (6,), (1,)))

    def test_large_common_divisors(self):
        common = poly(Q, [k * k - 7 for k in range(20)])
        one = poly_times(Q, common, poly(Q, [3 * k + 1 for k in range(20)]))
        other = poly_times(Q, common, poly(Q, [k * k * k - 5 for k in range(20)]))
        self.assertEqual(poly_common(Q, one, other), monic_of(Q, common))


class ThroughTest(unittest.TestCase):
    def test_polynomials_through_points(self):
        self.assertEqual(through(Q, []), ())
        self.assertEqual(through(Q, [((2, 1), (5, 1))]), ((5, 1),))
        self.assertEqual(through(Q, (((0, 1), (1, 1)), ((1, 1), (3, 1)), ((2, 1), (7, 1)))), poly(Q, [1, 1, 1]))
        self.assertEqual(through(Q, [((1, 2), (0, 1)), ((3, 2), (0, 1))]), ())
        self.assertEqual(through(Field(5), [(0, 1), (1, 3), (2, 2)]), (1, 1, 1))
        self.assertEqual(through(Field(2), [(0, 1), (1, 1)]), (1,))

    def test_the_least_degree(self):
        for field in (Q, Field(7)):
            points = points_of(field)
            for one in some_polys(field):
                if degree_of(one) < len(points):
                    rows = [(point, poly_value(field, one, point)) for point in points]
                    self.assertEqual(through(field, rows), one)
                    self.assertEqual(through(field, rows[: max(degree_of(one) + 1, 0)]), one)

    def test_a_point_told_twice(self):
        for field in FIELDS:
            zero, one = field.zero, field.one
            for rows in ([(zero, one), (zero, one)], [(zero, one), (one, one), (zero, zero)]):
                with self.assertRaises(PolyError):
                    through(field, rows)


class ResultantTest(unittest.TestCase):
    def by_roots(self, field, lead, roots, other):
        """The product of the other's values at the roots, times the lead to the other's degree."""
        found = field.one
        for root in roots:
            found = field.times(found, poly_value(field, other, root))
        for _ in range(degree_of(other)):
            found = field.times(found, lead)
        return found

    def test_the_values_at_the_roots(self):
        for field in FIELDS:
            for lead in (field.one, field.number(-1), field.number(5)):
                for roots in ((), (1,), (0,), (2, -1), (1, 1), (3, 0, -2), (1, 1, 2, 2)):
                    roots = [field.number(root) for root in roots]
                    one = (lead,)
                    for root in roots:
                        one = poly_times(field, one, (field.minus(field.zero, root), field.one))
                    for other in some_polys(field):
                        if other != ():
                            self.assertEqual(
                                resultant(field, one, other), self.by_roots(field, lead, roots, other), (one, other)
                            )

    def test_resultants(self):
        self.assertEqual(resultant(Q, poly(Q, [-1, 2]), poly(Q, [1, 0, 3])), (7, 1))
        self.assertEqual(resultant(Q, poly(Q, [1, 0, 1]), poly(Q, [-2, 0, 1])), (9, 1))
        self.assertEqual(resultant(Q, poly(Q, [-2, 1]), poly(Q, [-5, 1])), (-3, 1))
        self.assertEqual(resultant(Q, poly(Q, [-5, 1]), poly(Q, [-2, 1])), (3, 1))
        self.assertEqual(resultant(Q, poly(Q, [-1, 0, 1]), poly(Q, [1, 1])), (0, 1))
        # b * b - 4 * a * c, turned, times a.
        self.assertEqual(resultant(Q, poly(Q, [5, 3, 2]), poly(Q, [3, 4])), (62, 1))
        self.assertEqual(resultant(Field(7), (6, 2), (1, 0, 3)), 0)
        self.assertEqual(resultant(Field(5), (4, 2), (1, 0, 3)), 2)

    def test_numbers(self):
        self.assertEqual(resultant(Q, poly(Q, [3]), poly(Q, [1, 0, 1])), (9, 1))
        self.assertEqual(resultant(Q, poly(Q, [1, 0, 0, 1]), poly(Q, [-3])), (-27, 1))
        self.assertEqual(resultant(Q, poly(Q, [3]), poly(Q, [5])), (1, 1))
        self.assertEqual(resultant(Field(7), (3,), (1, 0, 1)), 2)
        self.assertEqual(resultant(Field(7), (1, 0, 0, 1), (3,)), 6)
        self.assertEqual(resultant(Field(7), (3,), (5,)), 1)

    def test_0(self):
        for field in FIELDS:
            for one in ((), poly(field, [1]), poly(field, [1, 1])):
                self.assertEqual(resultant(field, one, ()), field.zero)
                self.assertEqual(resultant(field, (), one), field.zero)


class PartsTest(unittest.TestCase):
    def check(self, one):
        rows = square_free_parts(one)
        self.assertIsInstance(rows, tuple)
        exponents = [exponent for part, exponent in rows]
        self.assertEqual(exponents, sorted(set(exponents)))
        found = poly(Q, [1])
        for part, exponent in rows:
            self.assertGreater(degree_of(part), 0)
            self.assertEqual(lead_of(part), (1, 1))
            self.assertEqual(poly_common(Q, part, slope_of(Q, part)), poly(Q, [1]))
            found = poly_times(Q, found, poly_power(Q, part, exponent))
        self.assertEqual(found, monic_of(Q, one))

    def test_the_powers_product_is_the_polynomial(self):
        for first in few_polys(Q):
            for second in few_polys(Q):
                if first != () and second != ():
                    self.check(poly_times(Q, first, poly_power(Q, second, 3)))

    def test_square_free_parts(self):
        one = poly_times(Q, poly(Q, [-2, 1]), poly_power(Q, poly(Q, [1, 2]), 3))
        self.assertEqual(square_free_parts(one), ((poly(Q, [-2, 1]), 1), (((1, 2), (1, 1)), 3)))
        self.assertEqual(square_free_parts(poly(Q, [3, 0, 3])), ((poly(Q, [1, 0, 1]), 1),))
        self.assertEqual(square_free_parts(poly(Q, [0, 0, 0, 0, 0, 7])), ((poly(Q, [0, 1]), 5),))
        self.assertEqual(square_free_parts(poly(Q, [0, 0, 1, 0, 1])), ((poly(Q, [1, 0, 1]), 1), (poly(Q, [0, 1]), 2)))

    def test_roots_of_one_exponent_stand_together(self):
        one = poly_power(Q, poly_times(Q, poly(Q, [-1, 1]), poly(Q, [-2, 1])), 2)
        self.assertEqual(square_free_parts(one), ((poly(Q, [2, -3, 1]), 2),))

    def test_numbers_have_no_parts(self):
        self.assertEqual(square_free_parts(poly(Q, [5])), ())


class WholeFormTest(unittest.TestCase):
    def test_whole_forms(self):
        self.assertEqual(whole_form(((1, 2), (2, 3))), ((1, 6), (3, 4)))
        self.assertEqual(whole_form(poly(Q, [4, 0, -6])), ((-2, 1), (-2, 0, 3)))
        self.assertEqual(whole_form(((-3, 4),)), ((-3, 4), (1,)))
        self.assertEqual(whole_form(((2, 3), (0, 1), (4, 9))), ((2, 9), (3, 0, 2)))
        self.assertEqual(whole_form(poly(Q, [1, 2, 1])), ((1, 1), (1, 2, 1)))

    def test_the_form_of_0(self):
        self.assertEqual(whole_form(()), ((0, 1), ()))

    def test_the_factor_times_the_whole_ones_is_the_polynomial(self):
        for one in some_polys(Q):
            for factor in ((1, 1), (-6, 5), (4, 7)):
                scale, numbers = whole_form(scaled(Q, one, factor))
                self.assertIsInstance(numbers, tuple)
                self.assertEqual(scaled(Q, poly(Q, numbers), scale), scaled(Q, one, factor))
                if one != ():
                    self.assertGreater(numbers[-1], 0)
                    self.assertFalse(any(all(k % prime == 0 for k in numbers) for prime in (2, 3, 5, 7, 11)))


if __name__ == "__main__":
    unittest.main()
