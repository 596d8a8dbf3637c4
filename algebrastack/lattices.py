"""Lattices: short whole rows that span the same as others, and whole relations between numbers."""

from algebrastack.errors import MatrixError
from algebrastack.matrices import dot
from algebrastack.rationals import (
    ZERO,
    compared,
    difference_of,
    product_of,
    quotient_of,
    rational,
    sign,
    sum_of,
)

HALF = (1, 2)
THREE_QUARTERS = (3, 4)


def inner(one, other):
    """Return the sum of products of two rows of fractions."""
    return dot(one, other)


def straightened(rows):
    """Return (rows at right angles, factors): each row is its own straight one plus factors times the earlier ones.

    A factor by an earlier straight row that is 0 is 0.
    """
    straight, factors = [], []
    for row in rows:
        own, shares = in_fractions(row), []
        left = own
        for other in straight:
            square = inner(other, other)
            share = ZERO if square == ZERO else quotient_of(inner(own, other), square)
            left = taken_off(left, other, share)
            shares.append(share)
        straight.append(left)
        factors.append(tuple(shares))
    return tuple(straight), tuple(factors)


def in_fractions(row):
    """Return a row of whole numbers, or of fractions, as one of fractions."""
    return tuple([number if isinstance(number, tuple) else rational(number) for number in row])


def taken_off(one, other, factor):
    """Return a row of fractions less a multiple of another one."""
    return tuple([difference_of(number, product_of(taken, factor)) for number, taken in zip(one, other)])


def nearest_whole(one):
    """Return the whole number nearest to a fraction, the greater one in the middle."""
    return (2 * one[0] + one[1]) // (2 * one[1])


def reduced_rows(rows):
    """Return short whole rows that span the same lattice; raise MatrixError if a row hangs on the others."""
    if len(rows) == 0 or any([len(row) != len(rows[0]) for row in rows]):
        raise MatrixError("there are no rows, or rows have different lengths")
    lattice = Lattice(rows)
    if any([square == ZERO for square in lattice.squares]):
        raise MatrixError("a row hangs on the others")
    place = 1
    while place < len(rows):
        lattice.shorten(place, place - 1)
        if lattice.is_long_enough(place):
            for step in reversed(range(place - 1)):
                lattice.shorten(place, step)
            place = place + 1
        else:
            lattice.exchange(place)
            place = max(place - 1, 1)
    return tuple(lattice.rows)


class Lattice:
    """Whole rows, the factors of their straightened rows, and the squares of these."""

    def __init__(self, rows):
        straight, factors = straightened(rows)
        self.rows = [tuple(row) for row in rows]
        self.factors = [list(row) for row in factors]
        self.squares = [inner(row, row) for row in straight]

    def shorten(self, place, step):
        """Take a multiple of an earlier row away from a row whose factor by it is more than 1/2 in size."""
        factors, others = self.factors[place], self.factors[step]
        if not is_small(factors[step]):
            whole = nearest_whole(factors[step])
            self.rows[place] = less_times(self.rows[place], self.rows[step], whole)
            for earlier in range(step):
                factors[earlier] = difference_of(factors[earlier], product_of(others[earlier], rational(whole)))
            factors[step] = difference_of(factors[step], rational(whole))

    def is_long_enough(self, place):
        """Return True if a straight row is not much shorter than the one before."""
        return is_step(self.squares[place], self.factors[place][place - 1], self.squares[place - 1])

    def exchange(self, place):
        """Exchange a row with the one before, and reckon anew what hangs on them."""
        one, other = place, place - 1
        factor = self.factors[one][other]
        square = sum_of(self.squares[one], product_of(product_of(factor, factor), self.squares[other]))
        turned = quotient_of(product_of(factor, self.squares[other]), square)
        self.squares[one] = quotient_of(product_of(self.squares[other], self.squares[one]), square)
        self.squares[other] = square
        self.rows[one], self.rows[other] = self.rows[other], self.rows[one]
        self.factors[one], self.factors[other] = self.factors[other] + [turned], self.factors[one][:other]
        for factors in self.factors[place + 1:]:
            high = factors[one]
            factors[one] = difference_of(factors[other], product_of(factor, high))
            factors[other] = sum_of(high, product_of(turned, factors[one]))


def less_times(one, other, whole):
    """Return a row of whole numbers, or of fractions, less a whole multiple of another one."""
    if any([isinstance(number, tuple) for number in one + other]):
        return taken_off(in_fractions(one), in_fractions(other), rational(whole))
    return tuple([number - whole * taken for number, taken in zip(one, other)])


def is_small(factor):
    """Return True if a factor is at most 1/2 in size."""
    return compared(factor, HALF) <= 0 and sign(sum_of(factor, HALF)) >= 0


def is_step(square, factor, before):
    """Return True if a straight row's square is at least 3/4, less its factor's square, times the one before."""
    least = product_of(difference_of(THREE_QUARTERS, product_of(factor, factor)), before)
    return compared(square, least) >= 0


def is_reduced(rows):
    """Return True if rows are short in the sense of reduced_rows."""
    straight, factors = straightened(rows)
    squares = [inner(row, row) for row in straight]
    if not all([is_small(factor) for row in factors for factor in row]):
        return False
    places = range(1, len(squares))
    return all([is_step(squares[place], factors[place][place - 1], squares[place - 1]) for place in places])


def relation(numbers, scale):
    """Return whole factors, not all 0, with a small sum of products with fractions, by a whole scale."""
    many = len(numbers)
    if many < 2:
        raise MatrixError("there are fewer than two numbers")
    rows = []
    for place, number in enumerate(numbers):
        row = [1 if place == step else 0 for step in range(many)]
        rows.append(tuple(row + [nearest_whole(product_of(number, rational(scale)))]))
    return tuple(reduced_rows(rows)[0][:many])
