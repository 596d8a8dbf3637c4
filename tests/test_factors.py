import unittest
from itertools import combinations, product
from math import gcd

from algebrastack.errors import NumberError, PolyError
from algebrastack.factors import (
    coefficient_bound,
    factors,
    factors_by,
    good_prime,
    is_irreducible,
    lifted_factors,
    near,
    null_rows,
    power_modulo,
    split_square_free,
    split_whole,
    subsets,
    whole_divided,
    whole_times,
)
from algebrastack.polys import (
    Field,
    degree_of,
    poly,
    poly_divided,
    poly_power,
    poly_times,
    scaled,
)

Q = Field()


def fractions(*numbers):
    return poly(Q, numbers)


def monic_ones(prime, degree):
    """Return all polynomials of a degree by a prime with 1 as leading coefficient."""
    return [low + (1,) for low in product(range(prime), repeat=degree)]


def parts_by(prime, one):
    """Return True if a polynomial is divided by another one of a lower degree that is no number, by trying all."""
    field = Field(prime)
    for degree in range(1, degree_of(one) // 2 + 1):
        for other in monic_ones(prime, degree):
            if poly_divided(field, one, other)[1] == ():
                return True
    return False


def some_by(prime):
    """Return polynomials by a prime of degrees 0 to 6, some with powers."""
    field = Field(prime)
    found = [(lead,) for lead in range(1, prime)]
    found += [poly(field, row) for row in ((1, 1), (0, 2, 1), (0, 0, 0, 1), (1, 2, 3, 4, 5, 6, 1), (1, 0, 0, 0, 1))]
    found += [poly(field, row) for row in ((3, 1, 4, 1, 5, 9, 1), (2, 7, 1, 8, 2, 8, 1), (1, 0, 0, 1, 0, 0, 1))]
    for exponent in (2, 3, 4, 5, 6, 9):
        found.append(poly_power(field, (1, 1), exponent))
        found.append(poly_times(field, poly_power(field, (1, 1, 1), exponent), poly(field, (0, 0, 0, 2, 1, 1))))
    return [one for one in found if one != ()]


class ByPrimeTest(unittest.TestCase):
    def check(self, prime, one):
        field = Field(prime)
        found = factors_by(prime, one)
        self.assertIsInstance(found, tuple)
        lead, rows = found
        self.assertEqual(lead, one[-1])
        self.assertIsInstance(rows, tuple)
        whole = (lead,)
        for factor, exponent in rows:
            self.assertEqual(factor[-1], 1)
            self.assertGreater(exponent, 0)
            self.assertGreater(degree_of(factor), 0)
            if prime < 8 and degree_of(factor) < 9:
                self.assertFalse(parts_by(prime, factor), factor)
            whole = poly_times(field, whole, poly_power(field, factor, exponent))
        self.assertEqual(whole, one)
        keys = [(len(factor), factor) for factor, exponent in rows]
        self.assertEqual(keys, sorted(set(keys)))

    def test_the_product_is_the_polynomial_and_nothing_can_be_parted(self):
        for prime in (2, 3, 5, 7, 101):
            for one in some_by(prime):
                if degree_of(one) <= 24:
                    with self.subTest(prime=prime, one=one):
                        self.check(prime, one)

    def test_all_small_ones(self):
        for prime, most in ((2, 7), (3, 4), (5, 3)):
            for degree in range(1, most + 1):
                for one in monic_ones(prime, degree):
                    self.check(prime, one)

    def test_factors(self):
        self.assertEqual(factors_by(5, (4, 0, 1)), (1, (((1, 1), 1), ((4, 1), 1))))
        self.assertEqual(factors_by(2, (1, 0, 0, 0, 1)), (1, (((1, 1), 4),)))
        self.assertEqual(factors_by(3, (1, 0, 0, 0, 1)), (1, (((2, 1, 1), 1), ((2, 2, 1), 1))))
        self.assertEqual(factors_by(3, (2, 0, 0, 2)), (2, (((1, 1), 3),)))
        self.assertEqual(factors_by(7, (0, 0, 3)), (3, (((0, 1), 2),)))

    def test_powers_of_the_prime_and_others(self):
        field = Field(3)
        one = poly_times(field, poly_power(field, (1, 1), 9), poly_power(field, (2, 1), 4))
        one = poly_times(field, one, poly_power(field, (1, 0, 1), 3))
        self.assertEqual(factors_by(3, one), (1, (((1, 1), 9), ((2, 1), 4), ((1, 0, 1), 3))))

    def test_numbers(self):
        self.assertEqual(factors_by(2, (1,)), (1, ()))
        self.assertEqual(factors_by(7, (5,)), (5, ()))

    def test_a_large_prime(self):
        field, prime = Field(1000003), 1000003
        parts = [(k * k + 1, 1) for k in range(1, 9)] + [(2, 0, 1), (5, 0, 1)]
        whole = (7,)
        for part in parts:
            whole = poly_times(field, whole, part)
        self.check(prime, whole)
        self.assertGreaterEqual(len(factors_by(prime, whole)[1]), 10)

    def test_degrees(self):
        for prime in (2, 3, 7):
            self.check(prime, (1,) + (0,) * 23 + (1,))
            self.check(prime, (1, 1) + (0,) * 22 + (1,))
            for one in ((), (1,) + (0,) * 24 + (1,)):
                with self.assertRaises(PolyError):
                    factors_by(prime, one)

    def test_square_free_ones(self):
        self.assertEqual(split_square_free(Field(5), (3, 0, 2)), ((1, 1), (4, 1)))
        self.assertEqual(split_square_free(Field(5), (2, 0, 1)), ((2, 0, 1),))
        self.assertEqual(split_square_free(Field(2), (0, 1, 1)), ((0, 1), (1, 1)))
        self.assertEqual(split_square_free(Field(2), (1, 1, 1, 1, 1, 1, 1)), ((1, 0, 1, 1), (1, 1, 0, 1)))
        self.assertEqual(split_square_free(Field(7), (0, 6, 0, 0, 0, 0, 0, 1)), tuple([(k, 1) for k in range(7)]))

    def test_powers_by_another_one(self):
        for prime in (2, 3, 7):
            field = Field(prime)
            for one in ((), (1,), (0, 1), (1, 1, 1)):
                for other in ((1, 1), (1, 0, 1), (1, 1, 0, 1)):
                    for exponent in (0, 1, 2, 5, 8):
                        plain = poly_divided(field, poly_power(field, one, exponent), other)[1]
                        self.assertEqual(power_modulo(field, one, exponent, other), plain)
        self.assertEqual(power_modulo(Field(7), (0, 1), 7 ** 30, (1, 0, 1)), (0, 1))
        self.assertEqual(power_modulo(Q, fractions(0, 1), 5, fractions(-2, 0, 1)), fractions(0, 4))
        self.assertEqual(power_modulo(Field(7), (3, 1), 4, (5,)), ())
        with self.assertRaises(NumberError):
            power_modulo(Field(7), (0, 1), 2, ())

    def test_null_rows(self):
        field = Field(5)
        self.assertEqual(null_rows(field, [(1, 0), (0, 1)]), [])
        for rows in ([(1, 2), (2, 4), (3, 1)], [(), (1,), (2, 3)], [(1, 1), (1, 1), (1, 1)], [(0, 1, 2), (0, 2, 4)]):
            found = null_rows(field, rows)
            self.assertIsInstance(found, list)
            whole = {self.sum_of_rows(field, rows, row): True for row in found}
            self.assertEqual(list(whole), [()])
            fits = [row for row in product(range(5), repeat=len(rows)) if self.sum_of_rows(field, rows, row) == ()]
            self.assertEqual(len(fits), 5 ** len(found))
            spanned = {poly(field, self.mixed(found, row, len(rows))) for row in product(range(5), repeat=len(found))}
            self.assertEqual(spanned, {poly(field, row) for row in fits})
        self.assertEqual(null_rows(Q, [fractions(1, 2), fractions(2, 4)]), [((-2, 1), (1, 1))])

    def sum_of_rows(self, field, rows, row):
        whole = [0] * 4
        for factor, one in zip(row, rows):
            for place, number in enumerate(one):
                whole[place] += factor * number
        return poly(field, whole)

    def mixed(self, rows, row, width):
        whole = [0] * width
        for factor, one in zip(row, rows):
            for place, number in enumerate(one):
                whole[place] += factor * number
        return whole


class WholeTest(unittest.TestCase):
    def test_bounds_are_above_twice_all_coefficients_of_factors(self):
        for parts in (((1, 1),), ((-1, 1), (1, 1)), ((1, 1),) * 6, ((3, 2), (5, 7), (1, 0, 1)), ((1, -1, 1),) * 4):
            for many in range(len(parts) + 1):
                for chosen in combinations(parts, many):
                    for factor in (1, -6):
                        whole, part = (factor,), (1,)
                        for one in parts:
                            whole = whole_times(whole, one)
                        for one in chosen:
                            part = whole_times(part, one)
                        self.assertGreater(coefficient_bound(whole), 2 * max(abs(number) for number in part))
                        self.assertGreater(coefficient_bound(whole), 2 * max(abs(number) for number in whole))
        # A factor with a larger coefficient than the polynomial: x^105 - 1 has one with -2.
        self.assertGreater(coefficient_bound((-1,) + (0,) * 104 + (1,)), 4)

    def test_good_primes(self):
        self.assertEqual(good_prime((1, 0, 0, 0, 1)), 3)
        self.assertEqual(good_prime((-1, 0, 0, 1)), 5)
        self.assertEqual(good_prime((1, 1, 15)), 7)
        self.assertEqual(good_prime((0, -105, 0, 1)), 11)
        self.assertEqual(good_prime((2, 1)), 3)
        self.assertEqual(good_prime((1, 3)), 5)

    def test_products(self):
        self.assertEqual(whole_times((1, 2), (3, -4, 5)), (3, 2, -3, 10))
        self.assertEqual(whole_times((), (1, 2)), ())
        self.assertEqual(whole_times((1, 2), ()), ())

    def test_near_numbers(self):
        self.assertEqual([near(number, 5) for number in range(-3, 4)], [2, -2, -1, 0, 1, 2, -2])
        self.assertEqual([near(number, 4) for number in (-2, 2, 6, 3)], [2, 2, 2, -1])
        self.assertEqual(near(10 ** 20 - 1, 10 ** 20), -1)

    def test_lifted_factors(self):
        for numbers, prime in (((-1, 0, 0, 1), 5), ((1, 0, 0, 0, 1), 3), ((-6, 1, 15), 7), ((2, 3, 4, 5, 11), 13)):
            plain = split_square_free(Field(prime), poly(Field(prime), numbers))
            for exponent in (1, 2, 3, 8, 13):
                base = prime ** exponent
                found = lifted_factors(numbers, prime, base)
                self.assertIsInstance(found, list)
                self.assertEqual(len(found), len(plain))
                whole = (1,)
                for one in found:
                    whole = whole_times(whole, one)
                self.assertTrue(all((left - right) % base == 0 for left, right in zip(whole, numbers, strict=True)))
                self.assertEqual([one[-1] for one in found[:-1]], [1] * (len(found) - 1))
                self.assertEqual((found[-1][-1] - numbers[-1]) % base, 0)

    def test_subsets(self):
        self.assertEqual(subsets([1, 2, 3], 2), [(1, 2), (1, 3), (2, 3)])
        self.assertEqual(subsets(("a", "b"), 0), [()])
        self.assertEqual(subsets(["a", "b"], 2), [("a", "b")])
        self.assertEqual(subsets(["a", "b"], 3), [])
        self.assertEqual(subsets([3, 1, 2], 1), [(3,), (1,), (2,)])

    def test_whole_quotients(self):
        self.assertEqual(whole_divided((3, 2, -3, 10), (1, 2)), (3, -4, 5))
        self.assertEqual(whole_divided((), (1, 2)), ())
        self.assertEqual(whole_divided((4, 6), (2,)), (2, 3))
        self.assertIsNone(whole_divided((4, 5), (2,)))
        self.assertIsNone(whole_divided((3, 2, -3, 11), (1, 2)))
        self.assertIsNone(whole_divided((1, 0, 1), (1, 1)))
        self.assertIsNone(whole_divided((1, 1), (1, 0, 1)))
        self.assertIsNone(whole_divided((1, 1), (2, 2)))
        with self.assertRaises(NumberError):
            whole_divided((1, 1), ())

    def test_split_whole(self):
        self.assertEqual(sorted(split_whole((-1, 0, 0, 0, 4))), sorted([(-1, 0, 2), (1, 0, 2)]))
        self.assertEqual(split_whole((1, 0, 0, 0, 1)), [(1, 0, 0, 0, 1)])
        self.assertEqual(split_whole((5, 3)), [(5, 3)])
        self.assertEqual(sorted(split_whole((0, -1, 0, 1))), [(-1, 1), (0, 1), (1, 1)])


class FractionTest(unittest.TestCase):
    def check(self, one):
        found = factors(one)
        self.assertIsInstance(found, tuple)
        factor, rows = found
        whole = (factor,)
        for numbers, exponent in rows:
            self.assertEqual(gcd(*numbers), 1)
            self.assertGreater(numbers[-1], 0)
            self.assertGreater(len(numbers), 1)
            self.assertGreater(exponent, 0)
            whole = poly_times(Q, whole, poly_power(Q, poly(Q, numbers), exponent))
        self.assertEqual(whole, one)
        keys = [(len(numbers), numbers) for numbers, exponent in rows]
        self.assertEqual(keys, sorted(set(keys)))
        return found

    def product_of(self, rows, factor=(1, 1)):
        found = (factor,)
        for numbers, exponent in rows:
            found = poly_times(Q, found, poly_power(Q, poly(Q, numbers), exponent))
        return found

    def test_factors(self):
        self.assertEqual(factors(fractions(-1, 0, 1)), ((1, 1), (((-1, 1), 1), ((1, 1), 1))))
        self.assertEqual(factors(((-1, 2), (0, 1), (2, 1))), ((1, 2), (((-1, 2), 1), ((1, 2), 1))))
        self.assertEqual(factors(fractions(6, -12)), ((-6, 1), (((-1, 2), 1),)))
        self.assertEqual(factors(fractions(0, 0, 0, 1, 1)), ((1, 1), (((0, 1), 3), ((1, 1), 1))))
        self.assertEqual(factors(((2, 3), (4, 3), (2, 3))), ((2, 3), (((1, 1), 2),)))

    def test_numbers(self):
        self.assertEqual(factors(fractions(5)), ((5, 1), ()))
        self.assertEqual(factors(((-2, 3),)), ((-2, 3), ()))

    def test_known_factors_come_back(self):
        for rows in (
            (((-3, 1), 1), ((1, 2), 3), ((1, 1, 1), 2)),
            (((-2, 0, 1), 2), ((1, 0, 1), 1), ((3, 0, 0, 2), 1)),
            (((0, 1), 4), ((-2, 0, 0, 0, 1), 2), ((1, 1, 1, 1, 1), 3)),
            (((1, 0, -10, 0, 1), 3), ((1, 0, 0, 0, 1), 2)),
            (((-7, 11), 1), ((5, 3, 17), 1), ((101, -99, 0, 8), 1)),
        ):
            for factor in ((1, 1), (-5, 7)):
                self.assertEqual(self.check(self.product_of(rows, factor)), (factor, rows))

    def test_what_parts_by_every_prime_and_yet_not(self):
        for numbers in (
            (1, 0, 0, 0, 1),
            (1, 0, -10, 0, 1),
            (576, 0, -960, 0, 352, 0, -40, 0, 1),
            (46225, 0, -5596840, 0, 13950764, 0, -7453176, 0, 1513334, 0, -141912, 0, 6476, 0, -136, 0, 1),
        ):
            self.assertEqual(self.check(fractions(*numbers)), ((1, 1), ((numbers, 1),)))
            self.assertTrue(is_irreducible(fractions(*numbers)))

    def test_the_variable_beside_what_parts_by_every_prime(self):
        self.assertEqual(factors(fractions(0, 1, 0, 0, 0, 1)), ((1, 1), (((0, 1), 1), ((1, 0, 0, 0, 1), 1))))
        self.assertEqual(factors(fractions(0, 1, 0, -10, 0, 1)), ((1, 1), (((0, 1), 1), ((1, 0, -10, 0, 1), 1))))
        one = poly_times(Q, fractions(1, 0, 0, 0, 1), fractions(1, 0, -10, 0, 1))
        self.assertEqual(factors(one), ((1, 1), (((1, 0, -10, 0, 1), 1), ((1, 0, 0, 0, 1), 1))))

    def test_roots_of_unity(self):
        for many, count in ((2, 2), (5, 2), (6, 4), (12, 6), (23, 2), (24, 8)):
            found = self.check(fractions(*((-1,) + (0,) * (many - 1) + (1,))))
            self.assertEqual(len(found[1]), count)

    def test_many_linear_ones(self):
        rows = tuple([((0 - k, 1), 1) for k in range(24, 0, -1)])
        self.assertEqual(self.check(self.product_of(rows)), ((1, 1), rows))

    def test_large_coefficients(self):
        left = (10 ** 30 + 7, 3, 0, 10 ** 25 + 1, 2)
        right = (10 ** 28 - 3, 10 ** 29, 5, 7)
        found = self.check(self.product_of(((left, 1), (right, 1))))
        self.assertEqual(found, ((1, 1), ((right, 1), (left, 1))))

    def test_degrees(self):
        self.assertEqual(factors(fractions(*((-2,) + (0,) * 23 + (1,))))[1], (((-2,) + (0,) * 23 + (1,), 1),))
        for one in ((), fractions(*((1,) + (0,) * 24 + (1,)))):
            with self.assertRaises(PolyError):
                factors(one)

    def test_is_irreducible(self):
        for numbers in ((0, 1), (3, 2), (-2, 0, 1), (1, 1, 1), (6, 3), (-2, 0, 0, 1)):
            self.assertTrue(is_irreducible(fractions(*numbers)), numbers)
            self.assertTrue(is_irreducible(scaled(Q, fractions(*numbers), (-3, 7))), numbers)
        for numbers in ((5,), (-1, 0, 1), (0, 0, 1), (1, 2, 1), (4, 0, 4, 0, 1), (0, 2, 1)):
            self.assertFalse(is_irreducible(fractions(*numbers)), numbers)
        with self.assertRaises(PolyError):
            is_irreducible(fractions(*((2,) + (0,) * 24 + (1,))))


if __name__ == "__main__":
    unittest.main()
