"""Proofs of primes: rows that anybody can check, for numbers too large to be tried."""

from math import isqrt

from algebrastack.errors import NumberError
from algebrastack.integers import power_by, prime_factors

LITTLE = 1000
MOST_PROOF = 200


def is_little_prime(number):
    """Return True for a prime below 1000, by trying."""
    if not 2 <= number < LITTLE:
        return False
    return all([number % divisor != 0 for divisor in range(2, isqrt(number) + 1)])


def prime_proof(number):
    """Return the proof that a number is a prime: rows (prime, witness, factors of the prime less 1), the largest first.

    Primes below 1000 have no row. The witness is the least number from 2 on whose powers run through all numbers below
    the prime. Raise NumberError for a number that is no prime, or whose factors cannot be found.
    """
    rows, left = {}, [number]
    while left != []:
        one = left.pop()
        if not is_little_prime(one) and one not in rows:
            if one < LITTLE or prime_factors(one) != ((one, 1),):
                raise NumberError("a number is no prime")
            factors = tuple([prime for prime, _ in prime_factors(one - 1)])
            rows[one] = (one, witness(one, factors), factors)
            left = left + list(factors)
    return tuple([rows[one] for one in sorted(rows, reverse=True)])


def witness(prime, factors):
    """Return the least number from 2 on whose powers run through all numbers below a prime.

    The factors are those of the prime less 1.
    """
    for one in range(2, prime):
        if power_by(one, prime - 1, prime) != 1:
            # By a prime, this power of each number but 0 is 1: no other number need be tried.
            raise NumberError("a number is no prime")
        if is_witness(prime, one, factors):
            return one
    raise NumberError("there is no witness")


def is_witness(prime, one, factors):
    """Return True if a number's power to the prime less 1 is 1, and that to the same by each factor is not."""
    if power_by(one, prime - 1, prime) != 1:
        return False
    return all([power_by(one, (prime - 1) // factor, prime) != 1 for factor in factors])


def check_proof(number, rows):
    """Raise NumberError if rows do not prove that a number is a prime: told twice, too many, or one that does not hold.

    A row holds if the factors divide the prime less 1 and nothing else does, each is a little prime or has a row, the
    witness to the prime less 1 is 1 by the prime, and to that by each factor is not.
    """
    told = {row[0]: row for row in rows}
    if len(rows) > MOST_PROOF or len(told) != len(rows):
        raise NumberError("there are too many rows, or one is told twice")
    if not is_little_prime(number) and number not in told:
        raise NumberError("a number has no row")
    for prime, one, factors in rows:
        if prime <= LITTLE or not row_holds(prime, one, factors, told):
            raise NumberError("a row does not hold")


def row_holds(prime, one, factors, told):
    """Return True if a row holds, those of its factors being there."""
    return parts_all(prime - 1, factors, told) and is_witness(prime, one, factors)


def parts_all(number, factors, told):
    """Return True if factors, each told once and a little prime or with a row, are just those that divide a number."""
    left, last = number, 1
    # A row holds in whatever order its factors are told; ascending, one that is told twice follows itself.
    for factor in sorted(factors):
        if factor <= last or left < 1 or left % factor != 0:
            return False
        if not is_little_prime(factor) and factor not in told:
            return False
        while left % factor == 0:
            left = left // factor
        last = factor
    return left == 1
