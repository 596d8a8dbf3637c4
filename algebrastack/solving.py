"""Solving: equations in one name, rows of linear ones, and polynomials in several names."""

from algebrastack.errors import PolyError, SolveError
from algebrastack.ideals import Ideal, one_variable, put_in
from algebrastack.integers import common_divisor, root_below
from algebrastack.matrices import checked, null_space, solution
from algebrastack.polys import Field, degree_of, poly_common
from algebrastack.rationals import (
    ONE,
    ZERO,
    difference_of,
    product_of,
    quotient_of,
    rational,
    rational_text,
    sign,
    sum_of,
)
from algebrastack.roots import rational_roots, real_roots
from algebrastack.terms import Terms, constant, terms_power, variable

MOST_SQUARE = 1000


def linear_parts(terms):
    """Return (factors, constant) of a polynomial of degree 1 at most; raise SolveError for another one."""
    if terms.degree() > 1:
        raise SolveError("a polynomial is not linear")
    rows = [tuple([1 if place == step else 0 for step in range(terms.many)]) for place in range(terms.many)]
    return tuple([terms.rows.get(row, ZERO) for row in rows]), terms.rows.get((0,) * terms.many, ZERO)


def solve_linear(equations):
    """Return (a point where polynomials are 0, directions) or None if there is none; raise SolveError if not linear."""
    rows = [linear_parts(terms) for terms in equations]
    if rows == []:
        raise SolveError("there are no equations")
    factors = checked([row[0] for row in rows])
    point = solution(factors, [difference_of(ZERO, row[1]) for row in rows])
    return None if point is None else (point, null_space(factors))


def solve_points(equations):
    """Return the points of fractions where polynomials are 0, ascending; raise SolveError for infinitely many.

    "Infinitely many" counts all numbers, not only fractions.
    """
    ideal = Ideal(equations)
    # The straight way to "lex" may take very long just where there are infinitely many.
    if not ideal.dimension_zero():
        raise SolveError("there are infinitely many points")
    basis = Ideal(ideal.basis, "lex").basis if ideal.basis != () else ()
    found = [()]
    # A polynomial of the basis uses no variable ahead of its leading one: the last variable is told first.
    for place in reversed(range(ideal.many)):
        found = [(number,) + point for point in found for number in numbers_ahead(basis, place, point)]
    fits = [point for point in found if all([one.value_at(point) == ZERO for one in ideal.generators])]
    return ascending_points(fits)


def numbers_ahead(basis, place, point):
    """Return the fractions that a variable may be where those behind it are told."""
    found = ()
    for one in basis:
        if not any([any(exponents[:place]) for exponents in one.rows]):
            left = one
            for step, number in enumerate(point):
                left = put_in(left, place + 1 + step, number)
            found = poly_common(Field(), found, one_variable(left, place))
    return rational_roots(found)


def ascending_points(points):
    """Return points of fractions by their numbers, the first ones first."""
    below = 1
    for point in points:
        for number in point:
            below = below // common_divisor(below, number[1]) * number[1]
    rows = sorted([(scaled_point(point, below), point) for point in points])
    return tuple([point for _, point in rows])


def scaled_point(point, below):
    """Return the numerators of fractions by a common denominator."""
    return tuple([number[0] * (below // number[1]) for number in point])


def solve_one(one):
    """Return (fractions, roots that are none) of a polynomial, both ascending; raise SolveError for 0."""
    if one == ():
        raise SolveError("all numbers are roots of 0")
    found = real_roots(one)
    exact = tuple([root.low for root in found if root.is_exact()])
    return exact, tuple([root for root in found if not root.is_exact()])


def quadratic_text(one):
    """Return the text of a quadratic polynomial's real roots with square roots, or "none"; raise SolveError."""
    if degree_of(one) != 2:
        raise SolveError("a polynomial is not quadratic")
    low, middle, high = one
    half = quotient_of(middle, product_of(high, rational(-2)))
    return square_text(half, difference_of(product_of(half, half), quotient_of(low, high)))


def square_text(half, rest):
    """Return "h", "h - r and h + r" or "h - k*sqrt(s) and h + k*sqrt(s)" for the roots of a fraction around another.

    The differences and sums with a root that is a fraction are told as fractions; there are no roots below 0: "none".
    """
    if sign(rest) < 0:
        return "none"
    if rest == ZERO:
        return rational_text(half)
    # The root of a / b is that of a b, divided by b.
    whole, free = squares_out(rest[0] * rest[1])
    factor = rational(whole, rest[1])
    if free == 1:
        return f"{rational_text(difference_of(half, factor))} and {rational_text(sum_of(half, factor))}"
    root = f"sqrt({free})" if factor == ONE else f"{rational_text(factor)}*sqrt({free})"
    if half == ZERO:
        return f"-{root} and {root}"
    return f"{rational_text(half)} - {root} and {rational_text(half)} + {root}"


def squares_out(number):
    """Return (a, b): a number is a times a times b, b without squares of numbers up to a thousand; (0, 1) for 0.

    The b of a square is 1.
    """
    if number == 0:
        return 0, 1
    whole, free = 1, abs(number)
    for step in range(2, MOST_SQUARE + 1):
        while free % (step * step) == 0:
            whole, free = whole * step, free // (step * step)
    root = root_below(free, 2)
    if root * root == free:
        whole, free = whole * root, 1
    return whole, (free if number > 0 else 0 - free)


def common_points(equations, low, high):
    """Return the points of whole numbers between bounds where polynomials are 0, ascending, by trying all."""
    if len(equations) == 0:
        raise SolveError("there are no equations")
    points = [()]
    for _ in range(equations[0].many):
        points = [point + (number,) for point in points for number in range(low, high + 1)]
    return tuple([point for point in points if all([is_zero_at(one, point) for one in equations])])


def is_zero_at(one, point):
    """Return True if a polynomial is 0 at whole numbers."""
    return one.value_at([rational(number) for number in point]) == ZERO


def moved_equations(equations, point):
    """Return polynomials with a point moved to the origin."""
    found = []
    for one in equations:
        moved = Terms(one.many)
        for row, part in one.rows.items():
            moved = moved.plus(moved_term(row, part, point))
        found.append(moved)
    return tuple(found)


def moved_term(row, part, point):
    """Return a term with a point moved to the origin."""
    many = len(row)
    if len(point) != many:
        raise PolyError("a point has other variables")
    found = constant(many, part)
    for place, exponent in enumerate(row):
        number = point[place]
        worth = number if isinstance(number, tuple) else rational(number)
        found = found.times(terms_power(variable(many, place).plus(constant(many, worth)), exponent))
    return found
