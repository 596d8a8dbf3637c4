"""Rationals: fractions in lowest terms, as (numerator, denominator) with a denominator above 0."""

from algebrastack.errors import NumberError
from algebrastack.integers import common_divisor, power

ZERO = (0, 1)
ONE = (1, 1)
MOST_DIGITS = 2000


def rational(one, other=1):
    """Return the fraction of two whole numbers; raise NumberError for a division by 0."""
    if other == 0:
        raise NumberError("a division by 0")
    divisor = common_divisor(one, other)
    if other < 0:
        divisor = -divisor
    return one // divisor, other // divisor


def sum_of(one, other):
    """Return a sum."""
    return rational(one[0] * other[1] + other[0] * one[1], one[1] * other[1])


def difference_of(one, other):
    """Return a difference."""
    return rational(one[0] * other[1] - other[0] * one[1], one[1] * other[1])


def product_of(one, other):
    """Return a product."""
    return rational(one[0] * other[0], one[1] * other[1])


def quotient_of(one, other):
    """Return a quotient; raise NumberError for a division by 0."""
    return rational(one[0] * other[1], one[1] * other[0])


def sign(one):
    """Return -1, 0 or 1."""
    if one[0] == 0:
        return 0
    return 1 if one[0] > 0 else -1


def compared(one, other):
    """Return the sign of a difference."""
    return sign(difference_of(one, other))


def raised(one, exponent):
    """Return a power with a whole exponent; raise NumberError for 0 with one below 0, or more than 2000 digits."""
    above, below = one if exponent >= 0 else quotient_of(ONE, one)
    size = abs(exponent)
    return few_digits((power_few(above, size), power_few(below, size)))


def power_few(number, exponent):
    """Return a power with an exponent from 0 on; raise NumberError for one that surely has more than 2000 digits."""
    # A number of n bits has a power of more than (n - 1) * exponent bits, and 4 bits are more than a digit: what is
    # refused here need not be worked out, which would take long.
    if (number.bit_length() - 1) * exponent > 4 * MOST_DIGITS:
        raise NumberError("a power has too many digits")
    return power(number, exponent)


def few_digits(one):
    """Return a fraction; raise NumberError for one of more than 2000 digits above or below."""
    bound = power(10, MOST_DIGITS)
    if abs(one[0]) >= bound or one[1] >= bound:
        raise NumberError("a fraction has too many digits")
    return one


def rational_text(one):
    """Return a fraction as text; raise NumberError for more than 2000 digits."""
    above, below = few_digits(one)
    return f"{above}" if below == 1 else f"{above}/{below}"
