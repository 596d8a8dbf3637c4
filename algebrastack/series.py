"""Series: powers of a variable up to a length, as tuples of so many fractions, the constant one first."""

from algebrastack.errors import SolveError
from algebrastack.rationals import ONE, ZERO, product_of, quotient_of, rational, sum_of

MINUS_ONE = (-1, 1)


def series_of(one, many):
    """Return a polynomial as a series of a length."""
    return tuple(one[:many]) + (ZERO,) * max(many - len(one), 0)


def series_plus(one, other):
    """Return a sum, as long as the shorter one."""
    return tuple([sum_of(left, right) for left, right in zip(one, other)])


def series_scaled(one, factor):
    """Return a series times a fraction."""
    return tuple([product_of(number, factor) for number in one])


def series_times(one, other):
    """Return a product, as long as the shorter one."""
    return tuple([crossed(one, other, place) for place in range(min(len(one), len(other)))])


def crossed(one, other, place):
    """Return the number at a place of a product."""
    found = ZERO
    for step in range(place + 1):
        found = sum_of(found, product_of(one[step], other[place - step]))
    return found


def series_inverse(one):
    """Return the series whose product with another is 1; raise SolveError if its constant is 0."""
    if one == () or one[0] == ZERO:
        raise SolveError("a series has no constant")
    return quotient_series((ONE,), one, len(one))


def series_slope(one):
    """Return the derivative, one shorter."""
    return tuple([product_of(one[place], rational(place)) for place in range(1, len(one))])


def series_integral(one):
    """Return the integral without a constant, one longer."""
    return (ZERO,) + tuple([quotient_of(number, rational(place + 1)) for place, number in enumerate(one)])


def series_composed(one, other):
    """Return a series with another one in the place of its variable; raise SolveError if that has a constant."""
    if other != () and other[0] != ZERO:
        raise SolveError("a series has a constant")
    many = min(len(one), len(other))
    found = series_of((), many)
    for number in reversed(one[:many]):
        found = series_plus(series_times(found, other), series_of((number,), many))
    return found


def series_reversed(one):
    """Return the series that undoes another one, which has no constant and a first power; raise SolveError."""
    if len(one) < 2 or one[0] != ZERO or one[1] == ZERO:
        raise SolveError("a series cannot be undone")
    # Lagrange: the number at n is that at n - 1 of the n-th power of the variable by the series, divided by n.
    base = series_inverse(one[1:])
    found, power = [ZERO], base
    for place in range(1, len(one)):
        found.append(quotient_of(power[place - 1], rational(place)))
        power = series_times(power, base)
    return tuple(found)


def series_exp(one):
    """Return the exponential of a series without a constant; raise SolveError for one with it."""
    if one == () or one[0] != ZERO:
        raise SolveError("a series has a constant")
    slope, found = series_slope(one), [ONE]
    for place in range(1, len(one)):
        found.append(quotient_of(crossed(slope, found, place - 1), rational(place)))
    return tuple(found)


def series_log(one):
    """Return the logarithm of a series whose constant is 1; raise SolveError for another one."""
    if one == () or one[0] != ONE:
        raise SolveError("the constant of a series is not 1")
    return series_integral(quotient_series(series_slope(one), one, len(one) - 1))


def series_power(one, exponent):
    """Return a power with a fraction as exponent of a series whose constant is 1; raise SolveError for another one."""
    return series_exp(series_scaled(series_log(one), exponent))


def quotient_series(above, below, many):
    """Return the series of a quotient of polynomials; raise SolveError if the one below has no constant."""
    if below == () or below[0] == ZERO:
        raise SolveError("there is no constant below")
    left, right = series_of(above, many), series_of(below, many)
    found = []
    for place in range(many):
        # With 0 in its place so far, the product tells what is still missing.
        taken = crossed(found + [ZERO], right, place)
        found.append(quotient_of(sum_of(left[place], product_of(taken, MINUS_ONE)), below[0]))
    return tuple(found)
