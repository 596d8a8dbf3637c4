"""Integers: common divisors, primes, remainders and square roots."""

from math import gcd

from algebrastack.errors import NumberError

MOST_TRIAL = 1000000
FIRST_PRIMES = (2, 3, 5, 7, 11, 13, 17, 19, 23, 29, 31, 37, 41)
# The least number that is no prime and yet passes the powers of all of FIRST_PRIMES.
LEAST_FALSE_PRIME = 3317044064679887385961981


def common_divisor(one, other):
    """Return the greatest common divisor, from 0 on."""
    return gcd(one, other)


def bezout(one, other):
    """Return (d, a, b): the greatest common divisor d, from 0 on, with one a + other b = d."""
    found, a, b = one, 1, 0
    rest, next_a, next_b = other, 0, 1
    while rest != 0:
        times = found // rest
        found, rest = rest, found - times * rest
        a, next_a = next_a, a - times * next_a
        b, next_b = next_b, b - times * next_b
    if found < 0:
        return -found, -a, -b
    return found, a, b


def inverse(number, base):
    """Return the inverse of a number by a base, from 0 on; raise NumberError if there is none."""
    if base < 2:
        raise NumberError("the base is below 2")
    divisor, found, _ = bezout(number, base)
    if divisor != 1:
        raise NumberError("there is no inverse")
    return found % base


def power_by(number, exponent, base):
    """Return a power by a base; raise NumberError for an exponent below 0."""
    if exponent < 0 or base < 1:
        raise NumberError("there is no such power")
    return repeated(lambda one, other: one * other % base, 1 % base, number % base, exponent)


def repeated(multiply, unit, one, exponent):
    """Return the power, with an exponent from 0 on, that a function of two makes, whose unit is told."""
    found, square, left = unit, one, exponent
    while left > 0:
        if left % 2 == 1:
            found = multiply(found, square)
        left = left // 2
        if left > 0:
            square = multiply(square, square)
    return found


def prime_factors(number):
    """Return the (prime, exponent) rows of a number, ascending; raise NumberError for 0, or what is left too large."""
    if number == 0:
        raise NumberError("0 has no prime factors")
    rows, left, divisor = [], abs(number), 2
    while divisor <= MOST_TRIAL and divisor * divisor <= left:
        if left % divisor == 0:
            left, exponent = divided_out(left, divisor)
            rows.append((divisor, exponent))
        divisor = divisor + 2 if divisor > 2 else 3
    if left > MOST_TRIAL * MOST_TRIAL:
        raise NumberError("a number is too large to be factored")
    if left > 1:
        rows.append((left, 1))
    return tuple(rows)


def divided_out(number, divisor):
    """Return (rest, exponent): a number that is not 0 is the rest times the divisor's power, the greatest one."""
    rest, exponent = number, 0
    while rest % divisor == 0:
        rest, exponent = rest // divisor, exponent + 1
    return rest, exponent


def is_prime(number):
    """Return True for a prime.

    Below LEAST_FALSE_PRIME this is proved. Of larger numbers, none is known that passes both tests and is no prime.
    """
    if number < 2:
        return False
    for prime in FIRST_PRIMES:
        if number % prime == 0:
            return number == prime
    for prime in FIRST_PRIMES:
        if not passes_powers(number, prime):
            return False
    return number < LEAST_FALSE_PRIME or passes_roots(number)


def passes_powers(number, witness):
    """Return True if an odd number is a prime as far as a witness's powers tell."""
    odd, twos = divided_out(number - 1, 2)
    found = power_by(witness, odd, number)
    if found == 1:
        return True
    for _ in range(twos):
        if found == number - 1:
            return True
        found = found * found % number
    return False


def passes_roots(number):
    """Return True if an odd number is a prime as far as the roots x of x * x = x - q tell.

    The first square is taken that has no root by the number if that is a prime. By such a prime the roots are each
    other's powers to the prime, so that x to the prime plus 1 is their product q.
    """
    root = root_below(number, 2)
    if root * root == number:
        return False
    square = 5
    while root_sign(square, number) == 1:
        square = 0 - square - 2 if square > 0 else 2 - square
    if root_sign(square, number) == 0:
        return False
    constant = (1 - square) // 4 % number
    found = repeated(lambda one, other: root_product(one, other, constant, number), (1, 0), (0, 1), number + 1)
    return found == (constant, 0)


def root_sign(number, base):
    """Return the Jacobi sign by an odd base: for a prime, 1 if a number has a root, -1 if not, 0 for its multiples."""
    found, above, below = 1, number % base, base
    while above != 0:
        above, twos = divided_out(above, 2)
        if twos % 2 == 1 and below % 8 in (3, 5):
            found = -found
        if above % 4 == 3 and below % 4 == 3:
            found = -found
        above, below = below % above, above
    return found if below == 1 else 0


def root_product(one, other, constant, base):
    """Return (a, b): by a base, the product of two (a, b), which are a + b x where x * x = x - constant."""
    high = one[1] * other[1]
    low = one[0] * other[0] - high * constant
    return low % base, (one[0] * other[1] + one[1] * other[0] + high) % base


def next_prime(number):
    """Return the least prime above a number."""
    found = max(number + 1, 2)
    while not is_prime(found):
        found = found + 1
    return found


def remainders_joined(rows):
    """Return (number, base): the least number from 0 on with given (remainder, base) rows, and the joined base."""
    found, base = 0, 1
    for remainder, other in rows:
        if other < 1:
            raise NumberError("there is no such base")
        divisor, factor, _ = bezout(base, other)
        if (remainder - found) % divisor != 0:
            raise NumberError("there is no such number")
        steps = (remainder - found) // divisor * factor % (other // divisor)
        found = found + base * steps
        base = base * (other // divisor)
    return found, base


def root_below(number, many):
    """Return the greatest whole number whose power is at most a number from 0 on; raise NumberError for others."""
    if number < 0 or many < 1:
        raise NumberError("there is no such root")
    if number == 0:
        return 0
    if many >= number.bit_length():
        return 1
    # Newton's steps fall from any start above the root, and the first one that does not fall stands at it.
    found = 1 << (number.bit_length() // many + 1)
    while True:
        lower = ((many - 1) * found + number // power(found, many - 1)) // many
        if lower >= found:
            return found
        found = lower


def power(number, exponent):
    """Return a power with an exponent from 0 on."""
    return repeated(lambda one, other: one * other, 1, number, exponent)


def divisors(number):
    """Return the divisors of a number above 0, ascending; raise NumberError for another one."""
    if number < 1:
        raise NumberError("a number is below 1")
    found = [1]
    for prime, exponent in prime_factors(number):
        found = [one * power(prime, times) for one in found for times in range(exponent + 1)]
    return tuple(sorted(found))


def convergents(one, other):
    """Return the (numerator, denominator) convergents of a fraction with a denominator above 0, in order."""
    if other < 1:
        raise NumberError("there is no such fraction")
    rows, last, before = [], (1, 0), (0, 1)
    above, below = one, other
    while below != 0:
        whole = above // below
        above, below = below, above - whole * below
        last, before = (whole * last[0] + before[0], whole * last[1] + before[1]), last
        rows.append(last)
    return tuple(rows)
