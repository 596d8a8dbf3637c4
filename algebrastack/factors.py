"""Factors: polynomials over remainders and over whole numbers as products of ones that cannot be parted."""

from itertools import combinations

from algebrastack.errors import NumberError, PolyError
from algebrastack.integers import inverse, next_prime, power, repeated, root_below
from algebrastack.linear import null_by
from algebrastack.polys import (
    Field,
    degree_of,
    lead_common,
    monic_of,
    poly,
    poly_bezout,
    poly_common,
    poly_divided,
    poly_minus,
    poly_plus,
    poly_times,
    slope_of,
    square_free_parts,
    trimmed,
    whole_form,
)

MOST_DEGREE = 24
TRIED_PRIMES = 6


def power_modulo(field, one, exponent, other):
    """Return a power of a polynomial, with an exponent from 0 on, by another one."""
    unit = poly_divided(field, (field.one,), other)[1]
    base = poly_divided(field, one, other)[1]
    return repeated(lambda left, right: times_modulo(field, left, right, other), unit, base, exponent)


def times_modulo(field, one, other, base):
    """Return a product of polynomials by another one."""
    return poly_divided(field, poly_times(field, one, other), base)[1]


def null_rows(field, rows):
    """Return a basis of the rows of factors by which the sum of some rows is 0, as polynomials."""
    width = max([len(row) for row in rows], default=0)
    columns = [[row[place] if place < len(row) else field.zero for row in rows] for place in range(width)]
    return [trimmed(field, factors_found) for factors_found in null_by(field, columns, len(rows))]


def split_square_free(field, one):
    """Return the factors of a square free polynomial by a prime, with 1 as leading coefficients, in ascending order."""
    if degree_of(one) < 1:
        return ()
    base = monic_of(field, one)
    parts = [base]
    # A polynomial that is its own power to the prime is a number by each factor, and so tells factors apart.
    for teller in null_rows(field, power_rows(field, base)):
        parts = [piece for part in parts for piece in told_apart(field, part, teller)]
    return tuple(by_length(parts))


def by_length(rows):
    """Return rows in ascending order, the shorter ones first."""
    keys = sorted([(len(row), row) for row in rows])
    return [row for _, row in keys]


def power_rows(field, base):
    """Return, for each power of the variable below a polynomial's degree, its power to the prime less itself."""
    step = power_modulo(field, (field.zero, field.one), field.prime, base)
    rows, moved, plain = [], poly_divided(field, (field.one,), base)[1], (field.one,)
    for _ in range(degree_of(base)):
        rows.append(poly_minus(field, moved, plain))
        moved, plain = times_modulo(field, moved, step, base), (field.zero,) + plain
    return rows


def told_apart(field, one, teller):
    """Return factors of a polynomial, by each of which a teller, which is a number by all its parts, is a number."""
    rest = poly_divided(field, teller, one)[1]
    if degree_of(rest) < 1:
        return [one]
    shift = 0
    while True:
        part = poly_common(field, one, tested(field, rest, shift, one))
        if 0 < degree_of(part) < degree_of(one):
            other = poly_divided(field, one, part)[0]
            return told_apart(field, part, teller) + told_apart(field, other, teller)
        shift = shift + 1


def tested(field, teller, shift, one):
    """Return a polynomial that is 0 by just some factors of another one, for some of the shifts.

    By an odd prime half of the numbers but 0 have the power 1, and no two numbers are told apart by none of the shifts.
    """
    moved = poly_plus(field, teller, trimmed(field, [field.number(shift)]))
    if field.prime == 2:
        return moved
    return poly_minus(field, power_modulo(field, moved, field.prime // 2, one), (field.one,))


def factors_by(prime, one):
    """Return (leading number, ((factor, exponent), ..)) of a polynomial by a prime, factors ascending."""
    if one == () or degree_of(one) > MOST_DEGREE:
        raise PolyError("a polynomial is 0, or its degree is above 24")
    field = Field(prime)
    rows, left, times = [], monic_of(field, one), 1
    while degree_of(left) > 0:
        slope = slope_of(field, left)
        if slope == ():
            # All exponents are multiples of the prime, and numbers by it are their own roots.
            left, times = left[::prime], times * prime
        else:
            for factor in split_square_free(field, poly_divided(field, left, poly_common(field, left, slope))[0]):
                left, exponent = taken_out(field, left, factor)
                rows.append((len(factor), factor, exponent * times))
    return one[-1], tuple([(factor, exponent) for _, factor, exponent in sorted(rows)])


def taken_out(field, one, factor):
    """Return (what is left of a polynomial, exponent) after division by a factor as often as it divides."""
    left, exponent = one, 0
    found, rest = poly_divided(field, left, factor)
    while rest == ():
        left, exponent = found, exponent + 1
        found, rest = poly_divided(field, left, factor)
    return left, exponent


def coefficient_bound(numbers):
    """Return a number that is larger than twice all coefficients of all whole factors of a whole polynomial."""
    # A factor's coefficients are at most 2 to the degree times the length of the row of the polynomial's.
    length = root_below(sum([number * number for number in numbers]), 2) + 1
    return 2 * power(2, max(len(numbers) - 1, 0)) * length


def good_prime(numbers):
    """Return the least odd prime by which a square free whole polynomial keeps its degree and stays square free."""
    return next_good_prime(numbers, 2)


def next_good_prime(numbers, least):
    """Return the least prime above a number by which a whole polynomial keeps its degree and stays square free."""
    prime = next_prime(least)
    while not is_good(numbers, prime):
        prime = next_prime(prime)
    return prime


def is_good(numbers, prime):
    """Return True if a whole polynomial keeps its degree by a prime and is square free by it."""
    field = Field(prime)
    one = poly(field, numbers)
    return len(one) == len(numbers) and degree_of(poly_common(field, one, slope_of(field, one))) < 1


def whole_times(one, other):
    """Return the product of two rows of whole coefficients."""
    if len(one) == 0 or len(other) == 0:
        return ()
    row = [0] * (len(one) + len(other) - 1)
    for place, left in enumerate(one):
        for step, right in enumerate(other):
            row[place + step] = row[place + step] + left * right
    return tuple(row)


def near(number, base):
    """Return the number nearest to 0 with the same remainder, the greater one of two as near."""
    rest = number % base
    return rest - base if 2 * rest > base else rest


def lifted_factors(numbers, prime, base):
    """Return the factors of a square free whole polynomial by a power of a prime, the leading number in the last one.

    Coefficients are from 0 below the base.
    """
    parts = lifted_parts(numbers, prime, base)
    last = parts.pop() if parts != [] else (1,)
    return parts + [tuple([number * numbers[-1] % base for number in last])]


def lifted_parts(numbers, prime, base):
    """Return the factors of a square free whole polynomial by a power of a prime, with 1 as leading coefficients."""
    field = Field(prime)
    parts = list(split_square_free(field, poly(field, numbers)))
    shares = inverse_shares(field, parts)
    scale = inverse(numbers[-1], base)
    wanted = [number * scale % base for number in numbers]
    reached = prime
    while reached < base:
        gap = [number - other for number, other in zip(wanted, product_by(parts, reached * prime))]
        error = poly(field, [number // reached for number in gap])
        parts = [
            stepped(part, times_modulo(field, error, share, poly(field, part)), reached)
            for part, share in zip(parts, shares)
        ]
        reached = reached * prime
    return parts


def inverse_shares(field, parts):
    """Return for each part the inverse, by it, of the product of all other parts."""
    found = []
    for place, part in enumerate(parts):
        others = (field.one,)
        for step, other in enumerate(parts):
            if step != place:
                others = times_modulo(field, others, other, part)
        found.append(poly_bezout(field, others, part)[1])
    return found


def product_by(parts, base):
    """Return the product of whole polynomials, with coefficients from 0 below a base."""
    found = (1,)
    for part in parts:
        found = tuple([number % base for number in whole_times(found, part)])
    return found


def stepped(part, change, reached):
    """Return a polynomial with a change of lower degree added, so many times."""
    row = list(part)
    for place, number in enumerate(change):
        row[place] = row[place] + number * reached
    return tuple(row)


def subsets(rows, many):
    """Return the tuples of so many of some rows, in order."""
    return list(combinations(rows, many))


def whole_divided(numbers, other):
    """Return the quotient of whole polynomials, None if it is not whole or something is left."""
    if other == ():
        raise NumberError("a division by 0")
    rest, found = list(numbers), [0] * max(len(numbers) - len(other) + 1, 0)
    for place in reversed(range(len(found))):
        lead = rest[place + len(other) - 1]
        if lead % other[-1] != 0:
            return None
        found[place] = lead // other[-1]
        for step, number in enumerate(other):
            rest[place + step] = rest[place + step] - found[place] * number
    return None if any(rest) else tuple(found)


def split_whole(numbers):
    """Return the whole factors of a square free whole polynomial without a common divisor of its coefficients."""
    if len(numbers) < 2:
        return []
    prime = prime_of_few(numbers)
    base, bound = prime, coefficient_bound(numbers) * abs(numbers[-1])
    while base <= bound:
        base = base * prime
    found, left, parts, many = [], numbers, lifted_parts(numbers, prime, base), 1
    while 2 * many <= len(parts):
        chosen = first_factor(left, parts, many, base)
        if chosen is None:
            many = many + 1
        else:
            found.append(chosen[0])
            left, parts = chosen[1], chosen[2]
    return by_length(found + [left])


def prime_of_few(numbers):
    """Return one of the first good primes by which a whole polynomial has the fewest factors."""
    prime, rows = good_prime(numbers), []
    for _ in range(TRIED_PRIMES):
        field = Field(prime)
        rows.append((len(split_square_free(field, poly(field, numbers))), prime))
        prime = next_good_prime(numbers, prime)
    return min(rows)[1]


def first_factor(left, parts, many, base):
    """Return (factor, quotient, parts that are left) of a whole polynomial for the first so many parts that fit.

    Return None if no so many parts fit.
    """
    for places in combinations(range(len(parts)), many):
        chosen = [parts[place] for place in places]
        if may_divide(left, chosen, base):
            row = product_by([(left[-1],)] + chosen, base)
            factor = without_common([near(number, base) for number in row])
            quotient = whole_divided(left, factor)
            if quotient is not None:
                return factor, quotient, [part for place, part in enumerate(parts) if place not in places]
    return None


def may_divide(left, chosen, base):
    """Return False if the constant of some parts' product shows that it does not divide."""
    constant = left[-1]
    for part in chosen:
        constant = constant * part[0] % base
    constant = near(constant, base)
    return left[0] == 0 if constant == 0 else left[-1] * left[0] % constant == 0


def without_common(numbers):
    """Return whole coefficients without a common divisor, the leading one above 0."""
    common = lead_common(numbers)
    return tuple([number // common for number in numbers])


def factors(one):
    """Return (factor, ((whole coefficients, exponent), ..)) of a polynomial over the fractions.

    The polynomial is the factor times the powers' product; whole factors have no common divisor of their coefficients,
    a leading one above 0, and are ordered by degree, then coefficients.
    """
    if one == () or degree_of(one) > MOST_DEGREE:
        raise PolyError("a polynomial is 0, or its degree is above 24")
    rows = []
    for part, exponent in square_free_parts(one):
        for found in split_whole(whole_form(part)[1]):
            rows.append((len(found), found, exponent))
    return whole_form(one)[0], tuple([(found, exponent) for _, found, exponent in sorted(rows)])


def is_irreducible(one):
    """Return True if a polynomial over the fractions of degree 1 or more cannot be parted."""
    if degree_of(one) < 1:
        return False
    rows = factors(one)[1]
    return len(rows) == 1 and rows[0][1] == 1
