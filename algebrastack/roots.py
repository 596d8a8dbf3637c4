"""Roots: how many real roots a polynomial has and between which fractions each stands."""

from algebrastack.errors import PolyError
from algebrastack.polys import (
    Field,
    degree_of,
    lead_common,
    poly,
    poly_common,
    poly_divided,
    scaled_rest,
    slope_of,
    whole_form,
)
from algebrastack.rationals import compared, difference_of, product_of, rational, sign, sum_of

HALF = (1, 2)


def square_free(one):
    """Return a polynomial with the same roots, each once."""
    if one == ():
        return one
    field = Field()
    return poly_divided(field, one, poly_common(field, one, slope_of(field, one)))[0]


def chain(one):
    """Return a polynomial, its slope, and the remainders of each two, turned, as whole forms."""
    field = Field()
    slope = slope_of(field, one)
    before, last, rests = signed_whole(one), signed_whole(slope), []
    while last != ():
        before, last = last, turned_rest(before, last)
        if last != ():
            rests.append(poly(field, last))
    return (one, slope) + tuple(rests)


def signed_whole(one):
    """Return whole coefficients without a common divisor: a polynomial times a fraction above 0."""
    factor, numbers = whole_form(one)
    return tuple([0 - number for number in numbers]) if sign(factor) < 0 else numbers


def turned_rest(one, other):
    """Return a whole form of the remainder of two whole polynomials, times a fraction below 0."""
    rest = scaled_rest(one, other)
    common = abs(lead_common(rest))
    return tuple([0 - number // common for number in rest])


def changes(signs):
    """Return how often signs change, 0 left out."""
    used = [one for one in signs if one != 0]
    return len([place for place in range(1, len(used)) if used[place] != used[place - 1]])


def whole_sign(numbers, point):
    """Return the sign of a whole polynomial's value at a fraction."""
    found, scale = 0, 1
    for number in reversed(numbers):
        found = found * point[0] + number * scale
        scale = scale * point[1]
    return number_sign(found)


def number_sign(number):
    """Return the sign of a whole number."""
    if number == 0:
        return 0
    return 1 if number > 0 else -1


def changes_at(wholes, point):
    """Return how often the signs of whole polynomials change at a fraction."""
    return changes([whole_sign(numbers, point) for numbers in wholes])


def changes_far(wholes, side):
    """Return how often the signs of whole polynomials change far above all roots, or far below for the side -1."""
    leads = [(numbers[-1], len(numbers)) for numbers in wholes if numbers != ()]
    return changes([number_sign(lead) * (side if many % 2 == 0 else 1) for lead, many in leads])


def count_roots(one, low=None, high=None):
    """Return how many different real roots stand above one fraction and not above another one; None is no bound."""
    if one == ():
        raise PolyError("all numbers are roots of 0")
    wholes = [signed_whole(part) for part in chain(square_free(one))]
    above_low = changes_far(wholes, -1) if low is None else changes_at(wholes, low)
    above_high = changes_far(wholes, 1) if high is None else changes_at(wholes, high)
    return max(above_low - above_high, 0)


def root_bound(one):
    """Return a whole fraction above the size of all roots."""
    if degree_of(one) < 1:
        return 1, 1
    numbers = whole_form(one)[1]
    greatest = max([abs(number) for number in numbers[:-1]])
    return 1 - (0 - greatest) // numbers[-1], 1


class Root:
    """A square free polynomial, and two fractions: the root is the only one above the first and not above the second.

    If both are equal, the root is that fraction. rows is the polynomial's chain.
    """

    def __init__(self, one, low, high, rows=None):
        self.poly = one
        self.low = low
        self.high = high
        self.rows = chain(one) if rows is None else rows

    def is_exact(self):
        """Return True if the root is a known fraction."""
        return self.low == self.high

    def shown(self):
        """Return (whole coefficients, low, high)."""
        return whole_form(self.poly)[1], self.low, self.high

    def halved(self):
        """Return the root between nearer fractions."""
        if self.is_exact():
            return self
        middle = product_of(sum_of(self.low, self.high), HALF)
        found = whole_sign(signed_whole(self.poly), middle)
        if found == 0:
            return Root(self.poly, middle, middle, self.rows)
        if found == sign_above(self.rows, self.low):
            return Root(self.poly, middle, self.high, self.rows)
        return Root(self.poly, self.low, middle, self.rows)

    def within(self, size):
        """Return the root between fractions that are at most a size apart; raise PolyError for a size of 0 or below."""
        if sign(size) < 1:
            raise PolyError("a size is not above 0")
        found = self
        while compared(difference_of(found.high, found.low), size) > 0:
            found = found.halved()
        return found


def sign_above(rows, point):
    """Return the sign of a square free polynomial, whose chain is told, between a fraction and the next root above."""
    found = whole_sign(signed_whole(rows[0]), point)
    return found if found != 0 else whole_sign(signed_whole(rows[1]), point)


def real_roots(one):
    """Return the real roots of a polynomial, ascending; raise PolyError for 0."""
    if one == ():
        raise PolyError("all numbers are roots of 0")
    base = square_free(one)
    rows, bound = chain(base), root_bound(base)
    return tuple([told_exactly(Root(base, low, high, rows)) for low, high in spans(rows, bound)])


def spans(rows, bound):
    """Return (low, high) rows that hold one root each, ascending, of the polynomial that begins a chain."""
    wholes, found = [signed_whole(part) for part in rows], []
    low = (0 - bound[0], bound[1])
    left = [(low, bound, changes_at(wholes, low), changes_at(wholes, bound))]
    while left != []:
        low, high, above_low, above_high = left.pop()
        if above_low - above_high == 1:
            found.append((low, high))
        elif above_low - above_high > 1:
            middle = product_of(sum_of(low, high), HALF)
            above_middle = changes_at(wholes, middle)
            left.append((middle, high, above_middle, above_high))
            left.append((low, middle, above_low, above_middle))
    return found


def told_exactly(root):
    """Return a root, as a known fraction if it is one."""
    lead = whole_form(root.poly)[1][-1]
    near = root.within((1, 2 * lead))
    if near.is_exact():
        return near
    # The denominator of a root divides the leading number, and bounds so near have one such fraction between them.
    point = rational(near.high[0] * lead // near.high[1], lead)
    if compared(point, near.low) > 0 and whole_sign(signed_whole(root.poly), point) == 0:
        return Root(root.poly, point, point, root.rows)
    return root


def compare_roots(one, other):
    """Return the sign of the difference of two roots."""
    if is_same_root(one, other):
        return 0
    left, right = one, other
    while True:
        if compared(left.high, right.low) <= 0:
            return -1
        if compared(right.high, left.low) <= 0:
            return 1
        left, right = left.halved(), right.halved()


def is_same_root(one, other):
    """Return True if two roots are the same number."""
    if one.is_exact():
        return is_root_at(other, one.low)
    if other.is_exact():
        return is_root_at(one, other.low)
    common = poly_common(Field(), one.poly, other.poly)
    low = one.low if compared(one.low, other.low) > 0 else other.low
    high = one.high if compared(one.high, other.high) < 0 else other.high
    return count_roots(common, low, high) > 0


def is_root_at(root, point):
    """Return True if a root is a fraction."""
    if root.is_exact():
        return root.low == point
    if compared(point, root.low) <= 0 or compared(point, root.high) > 0:
        return False
    return whole_sign(signed_whole(root.poly), point) == 0


def rational_roots(one):
    """Return the roots that are fractions, ascending."""
    return tuple([root.low for root in real_roots(one) if root.is_exact()])


def sign_at(one, root):
    """Return the sign of a polynomial at a root."""
    if one == ():
        return 0
    if not root.is_exact() and count_roots(poly_common(Field(), one, root.poly), root.low, root.high) > 0:
        return 0
    near = root
    while not near.is_exact() and count_roots(one, near.low, near.high) > 0:
        near = near.halved()
    return whole_sign(signed_whole(one), near.high)
