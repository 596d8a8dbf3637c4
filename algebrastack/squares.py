"""Squares: roots as continued fractions that come back, and the whole points of x * x - n * y * y = 1."""

from math import isqrt

from algebrastack.errors import NumberError

MOST_PERIOD = 2000


def root_parts(number):
    """Return (whole part, the parts that come again and again) of a number's root; raise NumberError for a square.

    So it is for a number below 0, and after 2000 parts.
    """
    if number < 0:
        raise NumberError("a number below 0 has no root")
    whole = isqrt(number)
    if whole * whole == number:
        raise NumberError("a number is a square")
    found = []
    take, below, part = whole, 1, whole
    while part != 2 * whole:
        if len(found) >= MOST_PERIOD:
            raise NumberError("a root has more than 2000 parts")
        below = (number - take * take) // below
        part = (whole + take) // below
        take = part * below - take
        found.append(part)
    return whole, tuple(found)


def root_convergents(number, many):
    """Return the first so many convergents (numerator, denominator) of a number's root."""
    whole, parts = root_parts(number)
    found, last, before = [], (1, 0), (0, 1)
    for place in range(many):
        part = whole if place == 0 else parts[(place - 1) % len(parts)]
        last, before = (part * last[0] + before[0], part * last[1] + before[1]), last
        found.append(last)
    return tuple(found)


def least_point(number):
    """Return the least (x, y) above 0 with x * x - n * y * y = 1; raise NumberError for a square."""
    period = len(root_parts(number)[1])
    return root_convergents(number, period if period % 2 == 0 else 2 * period)[-1]


def minus_point(number):
    """Return the least (x, y) above 0 with x * x - n * y * y = -1, None if there is none; NumberError for a square."""
    period = len(root_parts(number)[1])
    return None if period % 2 == 0 else root_convergents(number, period)[-1]


def points(number, many):
    """Return the first so many (x, y) above 0 with x * x - n * y * y = 1."""
    x, y = least_point(number)
    found, here = [], (1, 0)
    for _ in range(many):
        # With y as the factor of the root, each point is the one before times the least one.
        here = (here[0] * x + number * here[1] * y, here[0] * y + here[1] * x)
        found.append(here)
    return tuple(found)


def sum_of_two_squares(number):
    """Return the (a, b), a not above b, whose squares have a number as their sum, ascending; NumberError above 10 ** 6.

    So it is for a number below 0.
    """
    if not 0 <= number <= 10 ** 6:
        raise NumberError("a number is not from 0 to 10 ** 6")
    rows = [(one, isqrt(number - one * one)) for one in range(isqrt(number // 2) + 1)]
    return tuple([row for row in rows if row[0] * row[0] + row[1] * row[1] == number])
