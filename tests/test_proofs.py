import unittest
from itertools import permutations

from algebrastack.errors import NumberError
from algebrastack.integers import prime_factors
from algebrastack.proofs import check_proof, is_little_prime, prime_proof, row_holds, witness


def is_plain_prime(number):
    return number > 1 and all(number % divisor for divisor in range(2, int(number ** 0.5) + 1))


def powers(one, prime):
    """Return all powers of a number by a prime."""
    found, here = set(), 1
    while here not in found:
        found.add(here)
        here = here * one % prime
    return found


PRIMES = (1009, 1013, 7919, 10007, 65537, 104729, 1000003, 2147483647, 9999999967, 999999999989)
ROWS = (
    (999999999989, 2, (2, 11, 124847, 182041)),
    (182041, 13, (2, 3, 5, 37, 41)),
    (124847, 5, (2, 62423)),
    (62423, 5, (2, 23, 59)),
)


class LittlePrimeTest(unittest.TestCase):
    def test_below_1000(self):
        for number in range(-10, 1000):
            self.assertIs(is_little_prime(number), is_plain_prime(number), number)

    def test_from_1000_on(self):
        for number in (1000, 1009, 1013, 7919, 10 ** 9 + 7, 2 ** 61 - 1):
            self.assertIs(is_little_prime(number), False)


class PrimeProofTest(unittest.TestCase):
    def test_below_1000_there_is_no_row(self):
        for number in (2, 3, 5, 499, 991, 997):
            self.assertEqual(prime_proof(number), ())

    def test_rows(self):
        self.assertEqual(prime_proof(1009), ((1009, 11, (2, 3, 7)),))
        self.assertEqual(prime_proof(65537), ((65537, 3, (2,)),))
        self.assertEqual(prime_proof(2147483647), ((2147483647, 7, (2, 3, 7, 11, 31, 151, 331)),))
        self.assertEqual(prime_proof(999999999989), ROWS)

    def test_every_row(self):
        for prime in PRIMES:
            rows = prime_proof(prime)
            check_proof(prime, rows)
            told = [row[0] for row in rows]
            self.assertEqual(told[0], prime)
            self.assertEqual(told, sorted(set(told), reverse=True))
            for own, one, factors in rows:
                self.assertEqual(factors, tuple([factor for factor, _ in prime_factors(own - 1)]))
                self.assertEqual(one, witness(own, factors))
                for factor in factors:
                    self.assertEqual(factor in told, factor >= 1000)

    def test_what_is_no_prime(self):
        for number in (0, 1, -1, -7, -1009, 4, 561, 999, 1000, 1001, 1003, 1009 * 1013, 1009 ** 2, 10 ** 12, 3 ** 30):
            with self.assertRaises(NumberError):
                prime_proof(number)

    def test_factors_that_cannot_be_found(self):
        for number in (10 ** 12 + 39, 2 ** 89 - 1, 1000003 * 1000033):
            with self.assertRaises(NumberError):
                prime_proof(number)


class WitnessTest(unittest.TestCase):
    def test_least_witness(self):
        for prime in (3, 5, 7, 11, 13, 41, 71, 191, 409, 997):
            factors = tuple([factor for factor, _ in prime_factors(prime - 1)])
            found = witness(prime, factors)
            self.assertEqual(len(powers(found, prime)), prime - 1)
            for one in range(2, found):
                self.assertLess(len(powers(one, prime)), prime - 1)

    def test_no_witness(self):
        for number, factors in (
            (2, ()), (1, ()), (4, (3,)), (9, (2,)), (15, (2, 7)), (561, (2, 5, 7)), (1001, (2, 5)), (1105, (2, 3, 23)),
            (1009 * 1013, (2, 3, 83, 2053)),
        ):
            with self.assertRaises(NumberError):
                witness(number, factors)


class CheckTest(unittest.TestCase):
    def assert_no_proof(self, number, rows):
        with self.assertRaises(NumberError):
            check_proof(number, rows)

    def test_whole_proofs(self):
        self.assertIsNone(check_proof(997, ()))
        self.assertIsNone(check_proof(2, ()))
        self.assertIsNone(check_proof(999999999989, ROWS))
        self.assertIsNone(check_proof(999999999989, ROWS[::-1]))
        self.assertIsNone(check_proof(182041, ROWS))
        self.assertIsNone(check_proof(7, (ROWS[1],)))
        # Another number whose powers are all below the prime will do as well.
        self.assertIsNone(check_proof(1009, ((1009, 17, (2, 3, 7)),)))
        self.assertIsNone(check_proof(1009, [(1009, 11, [2, 3, 7])]))

    def test_missing_rows(self):
        for place in (0, 2, 3):
            self.assert_no_proof(999999999989, ROWS[:place] + ROWS[place + 1:])
        self.assert_no_proof(1009, ())
        for number in (0, 1, -7, 4, 561, 999, 1000):
            self.assert_no_proof(number, ())

    def test_rows_told_twice_or_too_many(self):
        self.assert_no_proof(999999999989, ROWS + ROWS[:1])
        self.assert_no_proof(999999999989, ROWS + ROWS[3:])
        self.assert_no_proof(7, (ROWS[3], ROWS[3]))
        rows = [prime_proof(prime)[0] for prime in range(1009, 3000) if is_plain_prime(prime)]
        small = [row for row in rows if max(row[2]) < 1000]
        self.assertGreater(len(small), 200)
        self.assertIsNone(check_proof(small[0][0], small[:200]))
        self.assert_no_proof(small[0][0], small[:201])

    def test_bent_rows(self):
        for bent in (
            (1009, 1, (2, 3, 7)),
            (1009, 0, (2, 3, 7)),
            (1009, 2, (2, 3, 7)),
            (1009, 1008, (2, 3, 7)),
            (1009, 11, (2, 3)),
            (1009, 11, (3, 7)),
            (1009, 11, ()),
            (1009, 11, (2, 3, 5, 7)),
            (1009, 11, (2, 3, 11)),
            (1009, 11, (4, 3, 7)),
            (1009, 11, (6, 7)),
            (1009, 11, (2, 2, 3, 7)),
            (1009, 11, (2, 3, 7, 2)),
            (1009, 11, (7, 2)),
            (1009, 11, (7, 5, 3, 2)),
            (1009, 11, (7, 3, 2, 1)),
            (1009, 11, (1, 2, 3, 7)),
            (1009, 11, (0, 2, 3, 7)),
            (1009, 11, (1008,)),
            (1013, 3, (2, 11, 23)),
            (1001, 2, (2, 5)),
            (997, 7, (2, 3, 83)),
        ):
            self.assert_no_proof(1009, (bent,))
        self.assert_no_proof(1105, ((1105, 2, (2, 3, 23)),))

    def test_factors_in_any_order(self):
        for factors in permutations((2, 3, 7)):
            self.assertIs(row_holds(1009, 11, factors, {}), True, factors)
            self.assertIsNone(check_proof(1009, ((1009, 11, factors),)))
        for prime in PRIMES:
            rows = tuple([(own, one, factors[::-1]) for own, one, factors in prime_proof(prime)])
            self.assertIsNone(check_proof(prime, rows))

    def test_wrong_factors_in_any_order(self):
        for wrong in ((2, 2, 3, 7), (2, 3, 7, 7), (2, 3), (3, 7), (2, 3, 5, 7), (1, 2, 3, 7), (4, 3, 7), (6, 7)):
            for factors in permutations(wrong):
                self.assertIs(row_holds(1009, 11, factors, {}), False, factors)
                self.assert_no_proof(1009, ((1009, 11, factors),))
        for factors in permutations((2, 62423)):
            self.assert_no_proof(124847, ((124847, 5, factors),))
        # What a table tells besides primes is weighed alike in each order.
        for factors in permutations((2, 4)):
            self.assertIs(row_holds(17, 3, factors, {4: True}), False, factors)

    def test_factors_without_a_row(self):
        self.assertIsNone(check_proof(124847, ROWS[2:]))
        self.assert_no_proof(124847, (ROWS[2], (62423, 5, (2, 23, 59 * 59))))
        self.assert_no_proof(124847, (ROWS[2], ROWS[1]))
        # 1729 comes back to 1 by its factors of 1728, but is no prime; nor may a row stand for a product.
        self.assert_no_proof(1729, ((1729, 2, (2, 3)),))
        self.assert_no_proof(10009, ((10009, 11, (2, 3, 139)), (1251, 2, (2, 5))))
        self.assert_no_proof(10009, ((10009, 11, (8, 1251)), (1251, 2, (2, 5))))

    def test_row_holds(self):
        self.assertIs(row_holds(1009, 11, (2, 3, 7), {}), True)
        self.assertIs(row_holds(7, 3, (2, 3), {}), True)
        self.assertIs(row_holds(124847, 5, (2, 62423), {62423: ROWS[3]}), True)
        for prime, one, factors, told in (
            (124847, 5, (2, 62423), {}),
            (124847, 5, (2, 62423), {124847: ROWS[2]}),
            (124847, 1, (2, 62423), {62423: ROWS[3]}),
            (1009, 11, (2, 3), {}),
            (1009, 10, (2, 3, 7), {}),
            (1009, 11, (1, 2, 3, 7), {1: True}),
            (1009, 11, (0,), {0: True}),
            (1009, 11, (-2, 3, 7), {-2: True}),
            (1, 2, (2,), {}),
            (0, 2, (), {}),
            (9, 2, (2,), {}),
        ):
            self.assertIs(row_holds(prime, one, factors, told), False, (prime, one, factors))


if __name__ == "__main__":
    unittest.main()
