"""Polynomials in one variable: tuples of coefficients, the constant one first, without a 0 at the end.

A field is the fractions, or the remainders by a prime, with numbers from 0 below it.
"""

from algebrastack.errors import NumberError, PolyError
from algebrastack.integers import common_divisor, inverse, repeated
from algebrastack.rationals import ONE, ZERO, difference_of, product_of, quotient_of, rational, sum_of


class Field:
    """The fractions, or the remainders by a prime."""

    def __init__(self, prime=None):
        self.prime = prime
        self.zero = ZERO if prime is None else 0
        self.one = ONE if prime is None else 1

    def plus(self, one, other):
        """Return a sum."""
        if self.prime is None:
            return sum_of(one, other)
        return (one + other) % self.prime

    def minus(self, one, other):
        """Return a difference."""
        if self.prime is None:
            return difference_of(one, other)
        return (one - other) % self.prime

    def times(self, one, other):
        """Return a product."""
        if self.prime is None:
            return product_of(one, other)
        return one * other % self.prime

    def over(self, one, other):
        """Return a quotient; raise NumberError for a division by 0."""
        if self.prime is None:
            return quotient_of(one, other)
        return one * inverse(other, self.prime) % self.prime

    def number(self, whole):
        """Return a whole number in the field."""
        if self.prime is None:
            return rational(whole)
        return whole % self.prime


def trimmed(field, row):
    """Return the polynomial of a row of coefficients."""
    many = len(row)
    while many > 0 and row[many - 1] == field.zero:
        many = many - 1
    return tuple(row[:many])


def poly(field, numbers):
    """Return the polynomial of whole coefficients, the constant one first."""
    return trimmed(field, [field.number(number) for number in numbers])


def degree_of(one):
    """Return the degree, -1 for 0."""
    return len(one) - 1


def lead_of(one):
    """Return the coefficient of the greatest power; raise PolyError for 0."""
    if one == ():
        raise PolyError("0 has no leading coefficient")
    return one[-1]


def poly_plus(field, one, other):
    """Return a sum."""
    if len(one) < len(other):
        return poly_plus(field, other, one)
    row = [field.plus(left, right) for left, right in zip(one, other)]
    return trimmed(field, row + list(one[len(other):]))


def poly_minus(field, one, other):
    """Return a difference."""
    return poly_plus(field, one, scaled(field, other, field.number(-1)))


def scaled(field, one, factor):
    """Return a polynomial times a number."""
    return trimmed(field, [field.times(number, factor) for number in one])


def poly_times(field, one, other):
    """Return a product."""
    row = [field.zero] * (len(one) + len(other))
    for place, left in enumerate(one):
        for step, right in enumerate(other):
            row[place + step] = field.plus(row[place + step], field.times(left, right))
    return trimmed(field, row)


def poly_divided(field, one, other):
    """Return (quotient, remainder); raise NumberError for a division by 0."""
    if other == ():
        raise NumberError("a division by 0")
    many = max(len(one) - len(other) + 1, 0)
    found, rest = [field.zero] * many, list(one)
    for place in reversed(range(many)):
        factor = field.over(rest[place + len(other) - 1], other[-1])
        found[place] = factor
        for step, number in enumerate(other):
            rest[place + step] = field.minus(rest[place + step], field.times(factor, number))
    return trimmed(field, found), trimmed(field, rest)


def monic_of(field, one):
    """Return a polynomial divided by its leading coefficient; 0 stays."""
    if one == ():
        return one
    return scaled(field, one, field.over(field.one, one[-1]))


def poly_common(field, one, other):
    """Return the greatest common divisor, with 1 as leading coefficient, 0 for 0 and 0."""
    if field.prime is None:
        return monic_of(field, poly(field, whole_common(whole_form(one)[1], whole_form(other)[1])))
    found, rest = one, other
    while rest != ():
        found, rest = rest, poly_divided(field, found, rest)[1]
    return monic_of(field, found)


def whole_common(one, other):
    """Return a common divisor of two whole polynomials that every other one divides, but for a fraction."""
    found, rest = one, other
    while rest != ():
        found, rest = rest, whole_rest(found, rest)
    return found


def whole_rest(one, other):
    """Return the remainder of a whole polynomial divided by another one, but for a fraction."""
    rest = scaled_rest(one, other)
    common = lead_common(rest)
    return tuple([number // common for number in rest])


def scaled_rest(one, other):
    """Return the coefficients of the remainder of whole polynomials, times some whole number above 0.

    Fractions on the way would cost far more time than whole numbers do.
    """
    rest = list(one)
    while len(rest) >= len(other):
        common = common_divisor(rest[-1], other[-1])
        lead, factor = abs(other[-1]) // common, rest[-1] // common
        if other[-1] < 0:
            factor = -factor
        start = len(rest) - len(other)
        rest = [number * lead for number in rest]
        for place, number in enumerate(other):
            rest[start + place] = rest[start + place] - factor * number
        while rest != [] and rest[-1] == 0:
            rest.pop()
    return rest


def lead_common(numbers):
    """Return the greatest common divisor of whole numbers, below 0 if the last one is; 0 for none."""
    found = 0
    for number in numbers:
        found = common_divisor(found, number)
    return -found if found > 0 and numbers[-1] < 0 else found


def poly_bezout(field, one, other):
    """Return (d, a, b): the greatest common divisor with one a + other b = d."""
    found = monic_row(field, (one, (field.one,), ()))
    rest = monic_row(field, (other, (), (field.one,)))
    while rest[0] != ():
        times = poly_divided(field, found[0], rest[0])[0]
        row = [poly_minus(field, left, poly_times(field, times, right)) for left, right in zip(found, rest)]
        found, rest = rest, monic_row(field, row)
    return found


def monic_row(field, row):
    """Return some polynomials divided by the leading coefficient of the first one; if that is 0, all stay."""
    if row[0] == ():
        return tuple(row)
    factor = field.over(field.one, row[0][-1])
    return tuple([scaled(field, one, factor) for one in row])


def slope_of(field, one):
    """Return the derivative."""
    return trimmed(field, [field.times(field.number(place), one[place]) for place in range(1, len(one))])


def poly_value(field, one, point):
    """Return the value at a point."""
    found = field.zero
    for number in reversed(one):
        found = field.plus(field.times(found, point), number)
    return found


def composed(field, one, other):
    """Return a polynomial with another one in the place of its variable."""
    found = ()
    for number in reversed(one):
        found = poly_plus(field, poly_times(field, found, other), trimmed(field, [number]))
    return found


def poly_power(field, one, exponent):
    """Return a power with an exponent from 0 on."""
    return repeated(lambda left, right: poly_times(field, left, right), (field.one,), one, exponent)


def through(field, points):
    """Return the polynomial of least degree through (point, value) rows; raise PolyError for a point told twice."""
    found, base = (), (field.one,)
    for point, value in points:
        # base is 0 at the points before, so that multiples of it leave their values as they are.
        at = poly_value(field, base, point)
        if at == field.zero:
            raise PolyError("a point is told twice")
        gap = field.minus(value, poly_value(field, found, point))
        found = poly_plus(field, found, scaled(field, base, field.over(gap, at)))
        base = poly_times(field, base, (field.minus(field.zero, point), field.one))
    return found


def resultant(field, one, other):
    """Return the resultant, which is 0 just if both have a common divisor that is no number; 0 if one of them is 0."""
    if one == () or other == ():
        return field.zero
    found, first, second = field.one, one, other
    while degree_of(second) > 0:
        # The second's values at the first's roots are those of the remainder; exchanged, each pair of roots turns.
        factor = number_power(field, second[-1], degree_of(first))
        if degree_of(first) % 2 == 1 and degree_of(second) % 2 == 1:
            factor = field.minus(field.zero, factor)
        found = field.times(found, factor)
        first, second = monic_of(field, second), poly_divided(field, first, second)[1]
        if second == ():
            return field.zero
    return field.times(found, number_power(field, second[0], degree_of(first)))


def number_power(field, one, exponent):
    """Return a power of a number of a field, with an exponent from 0 on."""
    return repeated(field.times, field.one, one, exponent)


def square_free_parts(one):
    """Return (polynomial, exponent) rows of a polynomial over the fractions: square free ones, exponents ascending."""
    if degree_of(one) < 1:
        return ()
    field = Field()
    slope = slope_of(field, one)
    common = poly_common(field, one, slope)
    # left holds each root that is still to be told once, and rest tells how often it is one.
    left, rest = poly_divided(field, one, common)[0], poly_divided(field, slope, common)[0]
    rows, exponent = [], 0
    while degree_of(left) > 0:
        exponent = exponent + 1
        rest = poly_minus(field, rest, slope_of(field, left))
        part = poly_common(field, left, rest)
        if degree_of(part) > 0:
            rows.append((part, exponent))
        left, rest = poly_divided(field, left, part)[0], poly_divided(field, rest, part)[0]
    return tuple(rows)


def whole_form(one):
    """Return (factor, whole coefficients) of a polynomial over the fractions; (0, ()) for 0."""
    if one == ():
        return ZERO, ()
    below = 1
    for number in one:
        below = below * (number[1] // common_divisor(below, number[1]))
    numbers = [number[0] * (below // number[1]) for number in one]
    common = lead_common(numbers)
    return rational(common, below), tuple([number // common for number in numbers])
