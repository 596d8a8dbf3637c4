"""Fractions of polynomials in one variable, in lowest terms with 1 as leading coefficient below the line."""

from algebrastack.errors import NumberError, PolyError
from algebrastack.polys import (
    Field,
    degree_of,
    poly,
    poly_bezout,
    poly_common,
    poly_divided,
    poly_minus,
    poly_plus,
    poly_power,
    poly_times,
    poly_value,
    scaled,
    slope_of,
    square_free_parts,
    trimmed,
    whole_form,
)
from algebrastack.rationals import ONE, ZERO, quotient_of, rational

MINUS_ONE = (-1, 1)
SHOWING_PRIME = 2147483647


class Quotient:
    """A polynomial above the line and one below it; raise NumberError for 0 below."""

    def __init__(self, above, below=(ONE,)):
        if below == ():
            raise NumberError("a division by 0")
        field = Field()
        self.above = above
        self.below = below
        if degree_of(below) > 0 and not surely_apart(above, below):
            common = poly_common(field, above, below)
            self.above = poly_divided(field, above, common)[0]
            self.below = poly_divided(field, below, common)[0]
        factor = quotient_of(ONE, self.below[-1])
        self.above = scaled(field, self.above, factor)
        self.below = scaled(field, self.below, factor)

    def shown(self):
        """Return (above, below)."""
        return self.above, self.below

    def added(self, other):
        """Return a sum."""
        field = Field()
        left = poly_times(field, self.above, other.below)
        right = poly_times(field, other.above, self.below)
        return Quotient(poly_plus(field, left, right), poly_times(field, self.below, other.below))

    def negated(self):
        """Return the quotient below 0."""
        return in_lowest(scaled(Field(), self.above, MINUS_ONE), self.below)

    def multiplied(self, other):
        """Return a product."""
        field = Field()
        return Quotient(poly_times(field, self.above, other.above), poly_times(field, self.below, other.below))

    def turned(self):
        """Return the inverse; raise NumberError for 0."""
        return Quotient(self.below, self.above)

    def raised_to(self, exponent):
        """Return a power with a whole exponent; raise NumberError for 0 with one below 0."""
        if exponent < 0:
            return self.turned().raised_to(0 - exponent)
        field = Field()
        return in_lowest(poly_power(field, self.above, exponent), poly_power(field, self.below, exponent))

    def slope(self):
        """Return the derivative."""
        field = Field()
        left = poly_times(field, slope_of(field, self.above), self.below)
        right = poly_times(field, self.above, slope_of(field, self.below))
        return Quotient(poly_minus(field, left, right), poly_times(field, self.below, self.below))

    def at(self, point):
        """Return the value at a fraction; raise NumberError where the polynomial below is 0."""
        field = Field()
        return quotient_of(poly_value(field, self.above, point), poly_value(field, self.below, point))


def surely_apart(one, other):
    """Return True if a prime shows that polynomials have no common divisor, which is soon seen."""
    field = Field(SHOWING_PRIME)
    left, right = [poly(field, whole_form(part)[1]) for part in (one, other)]
    # Where the leading number stays, a common divisor keeps its degree by the prime.
    return len(left) == len(one) and degree_of(poly_common(field, left, right)) == 0


def in_lowest(above, below):
    """Return the quotient of polynomials that are in lowest terms as they are."""
    found = Quotient(above)
    found.below = below
    return found


def parted(one):
    """Return (polynomial, ((above, below, exponent), ..)): a quotient as a polynomial and quotients by powers.

    The polynomials below are the square free parts, without common divisors; each above has a lower degree than the one
    below, and is not 0.
    """
    field = Field()
    whole, rest = poly_divided(field, one.above, one.below)
    rows = []
    for part, exponent in square_free_parts(one.below):
        power = poly_power(field, part, exponent)
        others = poly_divided(field, one.below, power)[0]
        # By the power, the quotient's share is what times the other powers is the polynomial above.
        share = poly_times(field, rest, poly_bezout(field, others, power)[1])
        rows = rows + by_powers(poly_divided(field, share, power)[1], part, exponent)
    return whole, tuple(rows)


def by_powers(above, part, exponent):
    """Return (above, below, exponent) rows of a quotient by a power, exponents ascending.

    What of a longer polynomial above is no multiple of a power stands by the power 0.
    """
    field = Field()
    rows, left = [], above
    for step in reversed(range(1, exponent + 1)):
        left, rest = poly_divided(field, left, part)
        if rest != ():
            rows.append((rest, part, step))
    if left != ():
        rows.append((left, part, 0))
    return list(reversed(rows))


def integrated(one):
    """Return the polynomial with 0 as constant whose derivative a polynomial is."""
    return trimmed(Field(), [ZERO] + [quotient_of(number, rational(place + 1)) for place, number in enumerate(one)])


def integral(one):
    """Return (quotient, (above, below)): a quotient is the first one's derivative plus the second.

    The polynomial below the second is square free, and the one above it has a lower degree; the first has no constant
    besides.
    """
    whole, rows = parted(one)
    found, rest = Quotient(integrated(whole)), Quotient(())
    for above, part, exponent in rows:
        left = above
        for step in reversed(range(1, exponent)):
            solved, left = lowered(left, part, step)
            found = found.added(solved)
        rest = rest.added(Quotient(left, part))
    return found, rest.shown()


def lowered(above, part, step):
    """Return (quotient, rest): above by a part's power to step + 1 is the quotient's slope plus rest by that to step.

    With above = a part + b part', the quotient is -b / step by the part's power to step, and rest is a + b' / step.
    """
    field = Field()
    slope = slope_of(field, part)
    _, first, second = poly_bezout(field, part, slope)
    high = poly_divided(field, poly_times(field, above, second), part)[1]
    low = poly_divided(field, poly_minus(field, above, poly_times(field, high, slope)), part)[0]
    factor = quotient_of(ONE, rational(step))
    solved = Quotient(scaled(field, high, rational(-1, step)), poly_power(field, part, step))
    return solved, poly_plus(field, low, scaled(field, slope_of(field, high), factor))


def residue(one, point):
    """Return the residue at a fraction where the polynomial below is 0 once at most; raise PolyError for more."""
    field = Field()
    if poly_value(field, one.below, point) != ZERO:
        return ZERO
    slope = poly_value(field, slope_of(field, one.below), point)
    if slope == ZERO:
        raise PolyError("the polynomial below is 0 more than once")
    return quotient_of(poly_value(field, one.above, point), slope)
