import unittest
from math import gcd

from algebrastack.errors import NumberError
from algebrastack.integers import (
    bezout,
    common_divisor,
    convergents,
    divisors,
    inverse,
    is_prime,
    next_prime,
    passes_roots,
    power,
    power_by,
    prime_factors,
    remainders_joined,
    root_below,
    root_sign,
)

# Products of primes that pass the powers of the first primes although they are none.
STRONG_COMPOSITES = (
    2047,
    1373653,
    25326001,
    3215031751,
    2152302898747,
    3474749660383,
    341550071728321,
    3825123056546413051,
    318665857834031151167461,
    3317044064679887385961981,
)


def tried_prime(number):
    return number > 1 and all(number % divisor != 0 for divisor in range(2, number))


class DivisorTest(unittest.TestCase):
    def test_common_divisors_are_from_0_on(self):
        self.assertEqual(common_divisor(12, 18), 6)
        self.assertEqual(common_divisor(-12, 18), 6)
        self.assertEqual(common_divisor(12, -18), 6)
        self.assertEqual(common_divisor(-12, -18), 6)
        self.assertEqual(common_divisor(7, 9), 1)
        self.assertEqual(common_divisor(2 ** 100 * 9, 2 ** 90 * 15), 2 ** 90 * 3)

    def test_common_divisors_of_0(self):
        self.assertEqual(common_divisor(0, 0), 0)
        self.assertEqual(common_divisor(0, 5), 5)
        self.assertEqual(common_divisor(5, 0), 5)
        self.assertEqual(common_divisor(0, -5), 5)
        self.assertEqual(common_divisor(-5, 0), 5)

    def test_bezout_proves_its_divisor(self):
        for one in range(-20, 21):
            for other in range(-20, 21):
                found = bezout(one, other)
                self.assertIsInstance(found, tuple)
                divisor, a, b = found
                self.assertEqual(divisor, gcd(one, other), (one, other))
                self.assertEqual(one * a + other * b, divisor, (one, other))

    def test_bezout_of_large_numbers(self):
        one, other = 3 ** 200, -(2 ** 300) * 81
        divisor, a, b = bezout(one, other)
        self.assertEqual(divisor, 81)
        self.assertEqual(one * a + other * b, 81)

    def test_divisors_ascend(self):
        self.assertEqual(divisors(1), (1,))
        self.assertEqual(divisors(12), (1, 2, 3, 4, 6, 12))
        self.assertEqual(divisors(13), (1, 13))
        self.assertEqual(divisors(49), (1, 7, 49))
        self.assertEqual(divisors(2 ** 70), tuple(2 ** k for k in range(71)))
        for number in range(1, 200):
            self.assertEqual(divisors(number), tuple(k for k in range(1, number + 1) if number % k == 0))

    def test_divisors_of_no_number_above_0(self):
        with self.assertRaises(NumberError):
            divisors(0)
        with self.assertRaises(NumberError):
            divisors(-6)


class PowerTest(unittest.TestCase):
    def test_inverses_are_from_0_on(self):
        for base in range(2, 40):
            for number in range(-45, 46):
                if gcd(number, base) == 1:
                    found = inverse(number, base)
                    self.assertTrue(0 <= found < base)
                    self.assertEqual(number * found % base, 1, (number, base))
                else:
                    with self.assertRaises(NumberError):
                        inverse(number, base)

    def test_inverses_need_a_base_from_2_on(self):
        for base in (1, 0, -1, -7):
            with self.assertRaises(NumberError):
                inverse(1, base)

    def test_powers_by_a_base(self):
        for number in range(-6, 7):
            for exponent in range(8):
                for base in range(1, 12):
                    self.assertEqual(power_by(number, exponent, base), number ** exponent % base)
        self.assertEqual(power_by(3, 10 ** 30, 10 ** 9 + 7), pow(3, 10 ** 30, 10 ** 9 + 7))
        self.assertEqual(power_by(5, 0, 1), 0)
        self.assertEqual(power_by(0, 0, 7), 1)

    def test_powers_by_a_base_that_are_none(self):
        for number, exponent, base in ((2, -1, 7), (2, 3, 0), (2, 3, -5), (0, -1, 1), (2, 0, 0)):
            with self.assertRaises(NumberError):
                power_by(number, exponent, base)

    def test_powers(self):
        for number in range(-5, 6):
            for exponent in range(9):
                self.assertEqual(power(number, exponent), number ** exponent)
        self.assertEqual(power(0, 0), 1)
        self.assertEqual(power(10, 2000), 10 ** 2000)

    def test_roots_are_the_greatest_below(self):
        for number in range(0, 300):
            for many in range(1, 12):
                root = root_below(number, many)
                self.assertTrue(root ** many <= number < (root + 1) ** many, (number, many, root))

    def test_roots_around_large_powers(self):
        for root in (2, 3, 10, 99999, 10 ** 20 + 1):
            for many in (1, 2, 3, 7, 64):
                whole = root ** many
                self.assertEqual(root_below(whole - 1, many), root - 1)
                self.assertEqual(root_below(whole, many), root)
                self.assertEqual(root_below(whole + 1, many), root if many > 1 else root + 1)
        self.assertEqual(root_below(10 ** 40, 10 ** 6), 1)

    def test_roots_that_are_none(self):
        for number, many in ((-1, 2), (-8, 3), (-1, 1), (4, 0), (4, -2), (0, 0)):
            with self.assertRaises(NumberError):
                root_below(number, many)


class PrimeTest(unittest.TestCase):
    def test_prime_factors_ascend(self):
        self.assertEqual(prime_factors(360), ((2, 3), (3, 2), (5, 1)))
        self.assertEqual(prime_factors(1), ())
        self.assertEqual(prime_factors(2), ((2, 1),))
        self.assertEqual(prime_factors(9), ((3, 2),))
        self.assertEqual(prime_factors(97), ((97, 1),))
        self.assertEqual(prime_factors(2 * 999983 ** 2), ((2, 1), (999983, 2)))
        for number in range(1, 500):
            rows = prime_factors(number)
            self.assertEqual(list(rows), sorted(rows))
            found = 1
            for prime, exponent in rows:
                self.assertTrue(tried_prime(prime) and exponent > 0)
                found *= prime ** exponent
            self.assertEqual(found, number)

    def test_prime_factors_leave_out_a_sign(self):
        self.assertEqual(prime_factors(-360), ((2, 3), (3, 2), (5, 1)))
        self.assertEqual(prime_factors(-1), ())
        self.assertEqual(prime_factors(-7), ((7, 1),))

    def test_prime_factors_of_0(self):
        with self.assertRaises(NumberError):
            prime_factors(0)

    def test_what_is_left_counts_as_a_prime_below_the_square_of_a_million(self):
        self.assertEqual(prime_factors(999999999989), ((999999999989, 1),))
        self.assertEqual(prime_factors(-12 * 999999999989), ((2, 2), (3, 1), (999999999989, 1)))
        self.assertEqual(prime_factors(10 ** 24), ((2, 24), (5, 24)))
        self.assertEqual(prime_factors(999983 ** 3), ((999983, 3),))
        self.assertEqual(prime_factors(999983 * 1000003), ((999983, 1), (1000003, 1)))

    def test_what_is_left_is_too_large(self):
        # The least prime above 10 ** 12, and the least number without a divisor up to a million that is no prime.
        for number in (1000000000039, 1000003 ** 2, 6 * 1000003 ** 2, -(1000003 ** 2), 2 ** 61 - 1):
            with self.assertRaises(NumberError):
                prime_factors(number)

    def test_primes_by_trying(self):
        for number in range(-30, 2000):
            self.assertIs(is_prime(number), tried_prime(number), number)

    def test_large_primes(self):
        for number in (999983, 999999999989, 1000000000039, 2 ** 61 - 1, 2 ** 89 - 1, 2 ** 127 - 1, 2 ** 521 - 1):
            self.assertIs(is_prime(number), True, number)

    def test_large_numbers_that_are_no_primes(self):
        for number in (999983 ** 2, 999983 * 1000003, 1000003 ** 2, 2 ** 67 - 1, 2 ** 257 - 1, -7, -(2 ** 61 - 1)):
            self.assertIs(is_prime(number), False, number)
        self.assertIs(is_prime((2 ** 61 - 1) ** 2), False)
        self.assertIs(is_prime((2 ** 61 - 1) * (2 ** 89 - 1)), False)

    def test_numbers_that_look_like_primes(self):
        for number in STRONG_COMPOSITES:
            self.assertIs(is_prime(number), False, number)
        for number in (561, 41041, 825265, 321197185, 5394826801):
            self.assertIs(is_prime(number), False, number)

    def test_signs_of_roots(self):
        primes = [number for number in range(3, 60) if tried_prime(number)]
        for prime in primes:
            squares = {number * number % prime for number in range(1, prime)}
            for number in range(-70, 71):
                sign = 0 if number % prime == 0 else 1 if number % prime in squares else -1
                self.assertEqual(root_sign(number, prime), sign, (number, prime))
                for other in primes:
                    self.assertEqual(root_sign(number, prime * other), sign * root_sign(number, other))

    def test_what_roots_tell_of_primes(self):
        # 5777 is the only number here that is no prime and passes; is_prime asks other tests before.
        for number in range(51, 9001, 2):
            self.assertIs(passes_roots(number), tried_prime(number) or number == 5777, number)

    def test_next_primes(self):
        for number, found in ((-100, 2), (-1, 2), (0, 2), (1, 2), (2, 3), (3, 5), (7, 11), (8, 11), (113, 127)):
            self.assertEqual(next_prime(number), found)
        self.assertEqual(next_prime(999983), 1000003)
        self.assertEqual(next_prime(10 ** 12), 1000000000039)
        self.assertEqual(next_prime(2 ** 61 - 2), 2 ** 61 - 1)
        self.assertEqual(next_prime(1327), 1361)


class RemainderTest(unittest.TestCase):
    def test_the_least_number_and_base(self):
        self.assertEqual(remainders_joined(((2, 3), (3, 5), (2, 7))), (23, 105))
        self.assertEqual(remainders_joined([(2, 3), (3, 5)]), (8, 15))
        self.assertEqual(remainders_joined(((5, 7),)), (5, 7))
        self.assertEqual(remainders_joined(((12, 7),)), (5, 7))
        self.assertEqual(remainders_joined(((-1, 7), (-1, 5))), (34, 35))
        self.assertEqual(remainders_joined(((4, 1),)), (0, 1))

    def test_no_remainders(self):
        self.assertEqual(remainders_joined(()), (0, 1))
        self.assertEqual(remainders_joined([]), (0, 1))

    def test_bases_that_share_a_divisor(self):
        self.assertEqual(remainders_joined(((1, 4), (3, 6))), (9, 12))
        self.assertEqual(remainders_joined(((2, 4), (2, 4))), (2, 4))
        for first in range(1, 9):
            for second in range(1, 9):
                for one in range(-2, first):
                    for other in range(second):
                        self.compare(one, first, other, second)

    def compare(self, one, first, other, second):
        base = first * second // gcd(first, second)
        fitting = [k for k in range(base) if (k - one) % first == 0 and (k - other) % second == 0]
        if fitting:
            self.assertEqual(remainders_joined(((one, first), (other, second))), (fitting[0], base))
        else:
            with self.assertRaises(NumberError):
                remainders_joined(((one, first), (other, second)))

    def test_nothing_fits(self):
        for rows in (((1, 2), (0, 2)), ((1, 4), (2, 6)), ((1, 3), (1, 5), (2, 9))):
            with self.assertRaises(NumberError):
                remainders_joined(rows)

    def test_a_base_below_1(self):
        for rows in (((0, 0),), ((1, 3), (1, 0)), ((1, -3),), ((1, 3), (0, -1))):
            with self.assertRaises(NumberError):
                remainders_joined(rows)


class ConvergentTest(unittest.TestCase):
    def test_convergents_in_order(self):
        self.assertEqual(convergents(415, 93), ((4, 1), (9, 2), (58, 13), (415, 93)))
        self.assertEqual(convergents(1, 3), ((0, 1), (1, 3)))
        self.assertEqual(convergents(5, 1), ((5, 1),))
        self.assertEqual(convergents(0, 4), ((0, 1),))
        self.assertEqual(convergents(8, 6), ((1, 1), (4, 3)))
        self.assertEqual(convergents(314159, 100000)[:4], ((3, 1), (22, 7), (333, 106), (355, 113)))

    def test_the_whole_part_is_rounded_down(self):
        # -7/3 is -3 + 1 / (1 + 1/2).
        self.assertEqual(convergents(-7, 3), ((-3, 1), (-2, 1), (-7, 3)))
        self.assertEqual(convergents(-1, 2), ((-1, 1), (-1, 2)))
        self.assertEqual(convergents(-4, 2), ((-2, 1),))

    def test_a_denominator_below_1(self):
        for one, other in ((1, 0), (1, -2), (0, 0), (-3, -3)):
            with self.assertRaises(NumberError):
                convergents(one, other)


if __name__ == "__main__":
    unittest.main()
