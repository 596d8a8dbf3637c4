import unittest
from itertools import product

from algebrastack.errors import NumberError, PolyError
from algebrastack.galois import Galois, cannot_part, first_irreducible
from algebrastack.polys import Field, poly_divided, poly_value


def small_fields():
    return (
        Galois(2), Galois(7), Galois(13), Galois(2, many=2), Galois(2, many=4), Galois(3, many=2), Galois(3, many=3),
        Galois(5, many=2), Galois(2, (1, 1, 1, 1, 1)), Galois(3, (2, 0, 2)),
    )


def all_of(field):
    return [field.element(number) for number in range(field.size)]


class FieldTest(unittest.TestCase):
    def test_fields_by_a_polynomial_and_by_a_found_one(self):
        field = Galois(3, (1, 0, 1))
        self.assertEqual((field.prime, field.base, field.size), (3, (1, 0, 1), 9))
        self.assertIsInstance(field.field, Field)
        self.assertEqual(field.field.prime, 3)
        field = Galois(2, many=3)
        self.assertEqual((field.base, field.size), ((1, 1, 0, 1), 8))
        self.assertEqual((Galois(5).base, Galois(5).size), ((0, 1), 5))
        self.assertEqual(Galois(2, (1, 1, 1), 5).size, 4)
        self.assertEqual(Galois(997, many=2).size, 994009)

    def test_no_prime_below_1000(self):
        for prime in (-7, 0, 1, 4, 9, 999, 1000, 1009, 10 ** 9 + 7):
            with self.assertRaises(NumberError):
                Galois(prime)
            with self.assertRaises(NumberError):
                Galois(prime, (1, 0, 1))

    def test_polynomials_that_can_be_parted(self):
        for prime, one in ((2, (1, 0, 1)), (5, (1, 0, 1)), (3, (0, 1, 1)), (3, (1,)), (3, ()), (2, (1, 0, 1, 0, 1))):
            with self.assertRaises(PolyError):
                Galois(prime, one)
        for many in (-1, 0, 9, 20):
            with self.assertRaises(PolyError):
                Galois(2, many=many)

    def test_elements_by_their_numbers(self):
        field = Galois(3, many=3)
        self.assertEqual(field.element(0), ())
        self.assertEqual(field.element(2), (2,))
        self.assertEqual(field.element(3), (0, 1))
        self.assertEqual(field.element(14), (2, 1, 1))
        self.assertEqual(field.number_of((2, 1, 1)), 14)
        for field in small_fields():
            found = all_of(field)
            self.assertEqual(len(set(found)), field.size)
            for number, one in enumerate(found):
                self.assertEqual(field.number_of(one), number)
                self.assertLess(len(one), len(field.base))

    def test_sums_differences_and_products(self):
        for field in small_fields():
            for one in all_of(field):
                for other in all_of(field)[::2]:
                    both = field.added(one, other)
                    self.assertEqual(field.taken(both, other), one)
                    self.assertEqual(field.added(other, one), both)
                    times = field.multiplied(one, other)
                    self.assertEqual(field.multiplied(other, one), times)
                    self.assertIn(field.number_of(times), range(field.size))
                    self.assertEqual(times == (), one == () or other == ())
                    more = field.multiplied(field.added(one, (1,)), other)
                    self.assertEqual(more, field.added(times, other))

    def test_known_ones(self):
        field = Galois(2, (1, 1, 0, 1, 1, 0, 0, 0, 1))
        one, other = field.element(0x57), field.element(0x83)
        self.assertEqual(field.number_of(field.multiplied(one, other)), 0xC1)
        self.assertEqual(field.number_of(field.added(one, other)), 0xD4)
        self.assertEqual(field.number_of(field.inverse_of(field.element(0x53))), 0xCA)
        self.assertEqual(field.reduced((0,) * 8 + (1,)), (1, 1, 0, 1, 1))
        self.assertEqual(field.generator(), (1, 1))

    def test_inverses(self):
        for field in small_fields():
            for one in all_of(field)[1:]:
                self.assertEqual(field.multiplied(one, field.inverse_of(one)), (1,))
            for one in ((), field.base):
                with self.assertRaises(NumberError):
                    field.inverse_of(one)

    def test_powers(self):
        for field in small_fields():
            for one in all_of(field):
                found = (1,)
                for exponent in range(6):
                    self.assertEqual(field.raised_to(one, exponent), found)
                    if one != ():
                        self.assertEqual(field.multiplied(field.raised_to(one, -exponent), found), (1,))
                    found = field.multiplied(found, one)
                self.assertEqual(field.raised_to(one, field.size), one)
            for exponent in (-1, -3):
                with self.assertRaises(NumberError):
                    field.raised_to((), exponent)


class OrderTest(unittest.TestCase):
    def by_steps(self, field, one):
        found, exponent = one, 1
        while found != (1,):
            found, exponent = field.multiplied(found, one), exponent + 1
        return exponent

    def test_orders(self):
        for field in small_fields():
            for one in all_of(field)[1:]:
                self.assertEqual(field.order_of(one), self.by_steps(field, one))
            for one in ((), field.base):
                with self.assertRaises(NumberError):
                    field.order_of(one)

    def test_generators_have_the_least_number(self):
        for field in small_fields():
            first = [one for one in all_of(field)[1:] if self.by_steps(field, one) == field.size - 1][0]
            self.assertEqual(field.generator(), first)
        self.assertEqual(Galois(7).generator(), (3,))
        self.assertEqual(Galois(2).generator(), (1,))

    def test_factors_that_cannot_be_found(self):
        # (983^7 - 1) / 982 has two prime factors that are far too large to be tried.
        field = Galois(983, many=7)
        for call in (field.generator, lambda: field.order_of((0, 1))):
            with self.assertRaises(NumberError):
                call()
        self.assertEqual(Galois(983, many=4).order_of((0, 1)), 983 ** 4 - 1)

    def test_logarithms_are_the_least_exponents(self):
        for field in small_fields():
            for base in all_of(field)[:12]:
                told, found = {}, (1,)
                for exponent in range(field.size + 1):
                    told.setdefault(found, exponent)
                    found = field.multiplied(found, base)
                for one in all_of(field):
                    if one in told:
                        self.assertEqual(field.logarithm(base, one), told[one])
                    else:
                        with self.assertRaises(NumberError):
                            field.logarithm(base, one)

    def test_a_large_logarithm(self):
        field = Galois(31, many=4)
        base = field.generator()
        one = field.element(123456)
        self.assertEqual(field.raised_to(base, field.logarithm(base, one)), one)
        self.assertEqual(field.logarithm(base, field.raised_to(base, 654321)), 654321)


class PolyTest(unittest.TestCase):
    def value_of(self, field, one, at):
        found = ()
        for number in reversed(one):
            found = field.added(field.multiplied(found, at), field.reduced((number,) if number else ()))
        return found

    def test_least_polynomials(self):
        for field in small_fields():
            for at in all_of(field):
                found = field.least_poly(at)
                self.assertEqual(found[-1], 1)
                self.assertEqual(self.value_of(field, found, at), ())
                self.assertTrue(cannot_part(field.prime, found))
        self.assertEqual(Galois(2, many=2).least_poly((0, 1)), (1, 1, 1))
        self.assertEqual(Galois(2, many=4).least_poly(()), (0, 1))
        self.assertEqual(Galois(5, many=2).least_poly((3,)), (2, 1))

    def test_cannot_part(self):
        for prime, most in ((2, 6), (3, 4), (5, 3)):
            plain = Field(prime)
            for degree in range(1, most + 1):
                for low in product(range(prime), repeat=degree):
                    one = low + (prime - 1,)
                    parts = any(
                        poly_divided(plain, one, other + (1,))[1] == ()
                        for less in range(1, degree // 2 + 1)
                        for other in product(range(prime), repeat=less)
                    )
                    self.assertEqual(cannot_part(prime, one), not parts, one)
        self.assertFalse(cannot_part(7, (3,)))
        self.assertFalse(cannot_part(7, ()))

    def test_first_irreducible_ones(self):
        self.assertEqual(first_irreducible(2, 1), (0, 1))
        self.assertEqual(first_irreducible(2, 2), (1, 1, 1))
        self.assertEqual(first_irreducible(2, 4), (1, 1, 0, 0, 1))
        self.assertEqual(first_irreducible(2, 8), (1, 1, 0, 1, 1, 0, 0, 0, 1))
        self.assertEqual(first_irreducible(3, 2), (1, 0, 1))
        self.assertEqual(first_irreducible(5, 2), (2, 0, 1))
        self.assertEqual(first_irreducible(7, 3), (2, 0, 0, 1))

    def test_no_lesser_number(self):
        for prime in (2, 3, 5):
            for many in range(1, 9):
                found = first_irreducible(prime, many)
                self.assertEqual((len(found), found[-1]), (many + 1, 1))
                self.assertTrue(cannot_part(prime, found))
                number = sum(digit * prime ** place for place, digit in enumerate(found[:-1]))
                for lesser in range(number):
                    low = tuple([lesser // prime ** place % prime for place in range(many)])
                    self.assertFalse(cannot_part(prime, low + (1,)))

    def test_other_degrees(self):
        for many in (-1, 0, 9, 100):
            with self.assertRaises(PolyError):
                first_irreducible(2, many)

    def test_roots_in_the_field(self):
        field = Galois(7)
        self.assertEqual(poly_value(field.field, (6, 0, 1), 1), 0)


if __name__ == "__main__":
    unittest.main()
