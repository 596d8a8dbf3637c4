"""Polynomials in several variables: tables of exponent rows and fractions, told as (exponents, fraction) rows."""

from heapq import heappop, heappush

from algebrastack.errors import PolyError
from algebrastack.integers import repeated
from algebrastack.rationals import (
    ONE,
    ZERO,
    difference_of,
    product_of,
    quotient_of,
    rational,
    rational_text,
    sign,
    sum_of,
)

ORDERS = ("lex", "grlex", "grevlex")
MINUS_ONE = (-1, 1)


def order_key(order, exponents):
    """Return what exponents are compared by, in an order; raise PolyError for an unknown one."""
    if order == "lex":
        return tuple(exponents)
    if order == "grlex":
        return (sum(exponents), *exponents)
    if order == "grevlex":
        return (sum(exponents), *[0 - one for one in reversed(exponents)])
    raise PolyError("an order is unknown")


class Terms:
    """Rows of exponents, one for each variable, and their fractions, none of which is 0."""

    def __init__(self, many, rows=()):
        self.many = many
        self.rows = {}
        for exponents, factor in rows:
            if len(exponents) != many or any([one < 0 for one in exponents]):
                raise PolyError("a term has other variables")
            add_term(self.rows, tuple(exponents), factor)

    def shown(self):
        """Return the (exponents, fraction) rows, ascending."""
        return tuple(sorted(self.rows.items()))

    def is_zero(self):
        """Return True for 0."""
        return len(self.rows) == 0

    def plus(self, other, factor=ONE):
        """Return a sum with a multiple of another one; raise PolyError for other variables."""
        if self.many != other.many:
            raise PolyError("polynomials have other variables")
        table = {exponents: self.rows[exponents] for exponents in self.rows}
        for exponents, number in other.rows.items():
            add_term(table, exponents, product_of(number, factor))
        return of_table(self.many, table)

    def minus(self, other):
        """Return a difference."""
        return self.plus(other, MINUS_ONE)

    def times(self, other):
        """Return a product; raise PolyError for other variables."""
        if self.many != other.many:
            raise PolyError("polynomials have other variables")
        table = {}
        for left, number in self.rows.items():
            for right, factor in other.rows.items():
                add_term(table, added(left, right), product_of(number, factor))
        return of_table(self.many, table)

    def shifted(self, exponents, factor):
        """Return the product with a term."""
        if len(exponents) != self.many:
            raise PolyError("a term has other variables")
        rows = [(added(own, exponents), product_of(number, factor)) for own, number in self.rows.items()]
        return Terms(self.many, rows)

    def lead(self, order):
        """Return the (exponents, fraction) of the greatest term in an order; raise PolyError for 0."""
        if len(self.rows) == 0:
            raise PolyError("0 has no leading term")
        _, exponents = max([(order_key(order, exponents), exponents) for exponents in self.rows])
        return exponents, self.rows[exponents]

    def degree(self):
        """Return the greatest sum of exponents, -1 for 0."""
        return max([sum(exponents) for exponents in self.rows], default=-1)

    def monic(self, order):
        """Return the polynomial divided by its leading fraction; raise PolyError for 0."""
        factor = quotient_of(ONE, self.lead(order)[1])
        table = {exponents: product_of(number, factor) for exponents, number in self.rows.items()}
        return of_table(self.many, table)

    def derivative(self, place):
        """Return the derivative by a variable; raise PolyError if there is none at the place."""
        step = unit_row(self.many, place)
        table = {}
        for exponents, number in self.rows.items():
            if exponents[place] > 0:
                table[quotient(exponents, step)] = product_of(number, rational(exponents[place]))
        return of_table(self.many, table)

    def value_at(self, point):
        """Return the value at fractions, one for each variable; raise PolyError for another number of them."""
        if len(point) != self.many:
            raise PolyError("a point has other variables")
        found = ZERO
        for exponents, number in self.rows.items():
            for base, exponent in zip(point, exponents):
                number = product_of(number, repeated(product_of, ONE, base, exponent))
            found = sum_of(found, number)
        return found


def add_term(table, exponents, factor):
    """Add a term to a table in which no fraction is 0."""
    number = sum_of(table.get(exponents, ZERO), factor)
    if number != ZERO:
        table[exponents] = number
    elif exponents in table:
        del table[exponents]


def of_table(many, table):
    """Return the polynomial of a table in which no fraction is 0."""
    found = Terms(many)
    found.rows = table
    return found


def added(one, other):
    """Return the sums of exponents."""
    return tuple([left + right for left, right in zip(one, other)])


def unit_row(many, place):
    """Return exponents that are 1 at a place, else 0; raise PolyError if there is no such place."""
    if not 0 <= place < many:
        raise PolyError("there is no such variable")
    return tuple([1 if step == place else 0 for step in range(many)])


def constant(many, factor):
    """Return a number as a polynomial."""
    return Terms(many, (((0,) * many, factor),))


def variable(many, place):
    """Return a variable; raise PolyError if there is none at the place."""
    return Terms(many, ((unit_row(many, place), ONE),))


def terms_power(one, exponent):
    """Return a power with an exponent from 0 on."""
    return repeated(lambda left, right: left.times(right), constant(one.many, ONE), one, exponent)


def divides(one, other):
    """Return True if exponents are at most others, one by one."""
    return all([left <= right for left, right in zip(one, other)])


def quotient(one, other):
    """Return the differences of exponents."""
    return tuple([left - right for left, right in zip(one, other)])


def joined(one, other):
    """Return the greater of exponents, one by one."""
    return tuple([max(left, right) for left, right in zip(one, other)])


def divided(one, others, order):
    """Return (quotients, remainder): a polynomial is the sum of the products with the quotients plus the remainder.

    The first of the others whose leading term divides is taken; no term of the remainder is divided by one.
    """
    if any([one.many != other.many for other in others]):
        raise PolyError("polynomials have other variables")
    leads = [other.lead(order) for other in others]
    tables, rest = [{} for other in others], {}
    left = {exponents: one.rows[exponents] for exponents in one.rows}
    queue = []
    for exponents in left:
        push_term(queue, order, exponents)
    while queue != []:
        exponents = heappop(queue)[1]
        if exponents in left:
            place = first_divisor(leads, exponents)
            if place is None:
                rest[exponents] = left[exponents]
                del left[exponents]
            else:
                step = quotient(exponents, leads[place][0])
                factor = quotient_of(left[exponents], leads[place][1])
                tables[place][step] = factor
                take_away(left, others[place], step, factor, queue, order)
    return tuple([of_table(one.many, table) for table in tables]), of_table(one.many, rest)


def push_term(queue, order, exponents):
    """Put exponents into a queue from which the greatest comes first."""
    heappush(queue, (tuple([0 - number for number in order_key(order, exponents)]), exponents))


def first_divisor(leads, exponents):
    """Return the place of the first leading term that divides exponents, None if there is none."""
    for place, (lead, _) in enumerate(leads):
        if divides(lead, exponents):
            return place
    return None


def take_away(table, other, step, factor, queue, order):
    """Take a polynomial's product with a term away from a table, and put what is new there into its queue."""
    for exponents, number in other.rows.items():
        place = added(exponents, step)
        if place not in table:
            push_term(queue, order, place)
        add_term(table, place, difference_of(ZERO, product_of(number, factor)))


def power_text(name, exponent):
    """Return a power of a name as text."""
    if exponent == 0:
        return "1"
    return name if exponent == 1 else f"{name}^{exponent}"


def terms_text(one, names, order="grlex"):
    """Return a polynomial as text: terms in descending order, with "*" and "^"."""
    rows = sorted([(order_key(order, exponents), exponents) for exponents in one.rows], reverse=True)
    found = ""
    for _, exponents in rows:
        number = one.rows[exponents]
        below = sign(number) < 0
        part = term_text(difference_of(ZERO, number) if below else number, exponents, names)
        if found == "":
            found = "-" + part if below else part
        else:
            found = found + (" - " if below else " + ") + part
    return found if found != "" else "0"


def term_text(number, exponents, names):
    """Return a term with a fraction above 0 as text."""
    parts = [power_text(name, exponent) for name, exponent in zip(names, exponents) if exponent > 0]
    if number != ONE or parts == []:
        parts = [rational_text(number)] + parts
    return "*".join(parts)
