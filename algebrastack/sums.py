"""Sums and recurrences: sums of polynomials in closed form, and rows of numbers that go on by a rule."""

from algebrastack.errors import SolveError
from algebrastack.integers import repeated
from algebrastack.polys import (
    Field,
    composed,
    poly,
    poly_divided,
    poly_plus,
    poly_times,
    scaled,
    trimmed,
)
from algebrastack.rationals import ONE, ZERO, difference_of, quotient_of, rational


def sum_to(one):
    """Return the polynomial whose value at n is the sum of a polynomial's values at 0 to n."""
    return composed(Field(), telescoped(one), (ONE, ONE))


def differences(row):
    """Return the rows of differences of numbers, each one shorter, the numbers first."""
    rows = [tuple(row)]
    while len(rows[-1]) > 1:
        last = rows[-1]
        rows.append(tuple([difference_of(last[place + 1], last[place]) for place in range(len(last) - 1)]))
    return tuple(rows)


def falling(many):
    """Return the product of a variable and so many less one numbers below it."""
    field, found = Field(), (ONE,)
    for step in range(many):
        found = poly_times(field, found, poly(field, (0 - step, 1)))
    return found


def by_falling(one):
    """Return the factors of the falling products of which a polynomial is the sum, the constant one first."""
    field, found, left = Field(), [], one
    while left != ():
        left, rest = poly_divided(field, left, poly(field, (0 - len(found), 1)))
        found.append(rest[0] if rest != () else ZERO)
    return tuple(found)


def from_falling(factors):
    """Return the polynomial that is a sum of falling products."""
    field, found = Field(), ()
    for many, factor in enumerate(factors):
        found = poly_plus(field, found, scaled(field, falling(many), factor))
    return found


def shortest_rule(row, field):
    """Return the shortest rule (f1, .., fn): a number is f1 times the last one, f2 times the one before, and so on.

    It is as short as any that carries the row on from its length.
    """
    # Each rule is (1, -f1, .., -fn) here. One that failed tells how the next failure is made up for.
    rule, length = [field.one], 0
    failed, gap_then, steps = [field.one], field.one, 1
    for place in range(len(row)):
        gap = gap_at(row, rule, place, field)
        if gap == field.zero:
            steps = steps + 1
        else:
            factor = field.over(gap, gap_then)
            moved = [field.zero] * steps + [field.times(number, factor) for number in failed]
            better = less(rule, moved, field)
            if 2 * length <= place:
                failed, gap_then, length, steps = rule, gap, place + 1 - length, 1
            else:
                steps = steps + 1
            rule = better
    return tuple([field.minus(field.zero, number) for number in rule[1:]])


def gap_at(row, rule, place, field):
    """Return by how much a row is not as a rule, (1, -f1, .., -fn), tells at a place; 0 where the row has not begun."""
    found = field.zero
    for step in range(min(len(rule), place + 1)):
        found = field.plus(found, field.times(rule[step], row[place - step]))
    return found


def less(one, other, field):
    """Return the differences of two rows of numbers, as long as the longer one."""
    many = max(len(one), len(other))
    left = one + [field.zero] * (many - len(one))
    right = other + [field.zero] * (many - len(other))
    return [field.minus(number, taken) for number, taken in zip(left, right)]


def carried_on(row, rule, many, field):
    """Return the first so many numbers of a row that goes on by a rule; raise SolveError for too few numbers."""
    need_enough(row, rule)
    found = list(row[:many])
    while len(found) < many:
        number = field.zero
        for step, factor in enumerate(rule):
            number = field.plus(number, field.times(factor, found[len(found) - 1 - step]))
        found.append(number)
    return tuple(found)


def need_enough(row, rule):
    """Raise SolveError for fewer numbers than a rule needs."""
    if len(row) < len(rule):
        raise SolveError("there are too few numbers")


def far_number(row, rule, place, field):
    """Return the number at a place of a row that goes on by a rule; raise SolveError for too few numbers."""
    need_enough(row, rule)
    if place < len(row):
        return row[place]
    # The power of the variable, by the rule, tells of how many of each of the last numbers the one far away is made.
    start = len(row) - len(rule)
    shares = power_by_rule(place - start, rule, field)
    found = field.zero
    for step, share in enumerate(shares):
        found = field.plus(found, field.times(share, row[start + step]))
    return found


def power_by_rule(exponent, rule, field):
    """Return a power of the variable by a rule."""
    unit = by_rule((field.one,), rule, field)
    base = moved_on(unit, rule, field)
    return repeated(lambda one, other: by_rule(poly_times(field, one, other), rule, field), unit, base, exponent)


def moved_on(one, rule, field):
    """Return a polynomial times the variable, by a rule."""
    return by_rule((field.zero,) + tuple(one), rule, field)


def by_rule(one, rule, field):
    """Return a polynomial with powers from the rule's length on put in by the rule."""
    found = list(one)
    while len(found) > len(rule):
        number = found.pop()
        for step, factor in enumerate(rule):
            place = len(found) - 1 - step
            found[place] = field.plus(found[place], field.times(number, factor))
    return trimmed(field, found)


def telescoped(one):
    """Return the polynomial whose value at n + 1 less its value at n is a polynomial's value at n, 0 at 0."""
    # Of falling products, the difference of that of k + 1 is k + 1 times that of k.
    factors = [quotient_of(number, rational(place + 1)) for place, number in enumerate(by_falling(one))]
    return from_falling([ZERO] + factors)
