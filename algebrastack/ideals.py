"""Ideals: bases in which division tells membership, with the factors that prove it."""

from heapq import heappop, heappush

from algebrastack.errors import IdealError
from algebrastack.integers import repeated
from algebrastack.polys import Field, trimmed
from algebrastack.rationals import ONE, ZERO, difference_of, product_of, quotient_of
from algebrastack.terms import (
    MINUS_ONE,
    Terms,
    added,
    constant,
    divided,
    divides,
    joined,
    order_key,
    quotient,
    unit_row,
)

MOST_ROWS = 60
MOST_PAIRS = 3000
MOST_TERMS = 80


class Ideal:
    """Generators, an order, and a basis whose polynomials are sums of products of generators with known factors."""

    def __init__(self, generators, order="grevlex"):
        self.generators = tuple(generators)
        if self.generators == () or len({one.many: True for one in self.generators}) != 1:
            raise IdealError("there are no generators, or they have different variables")
        self.many = self.generators[0].many
        self.order = order
        rows = basis_rows(self.generators, order)
        self.basis = tuple([row[0] for row in rows])
        self.factors = tuple([tuple(row[1]) for row in rows])

    def reduced(self, row, rows):
        """Return what is left of a row, (polynomial, [factors]), after division by others."""
        quotients, rest = divided(row[0], [other[0] for other in rows], self.order)
        return rest, factors_left(row[1], quotients, rows)

    def member(self, one):
        """Return (what is left of a polynomial, its factors by the generators): a member if nothing is left."""
        need_variables(self.many, one)
        quotients, rest = divided(one, self.basis, self.order)
        return rest, tuple(products_sum([Terms(self.many) for _ in self.generators], quotients, self.factors))

    def has(self, one):
        """Return True if a polynomial is a member."""
        need_variables(self.many, one)
        return divided(one, self.basis, self.order)[1].is_zero()

    def is_all(self):
        """Return True if every polynomial is a member."""
        return any([one.degree() == 0 for one in self.basis])

    def dimension_zero(self):
        """Return True if only finitely many points, of all numbers, are roots of all members."""
        leads = leads_of(self.basis, self.order)
        return all([least_power(leads, place) is not None for place in range(self.many)])

    def standard(self):
        """Return the exponents of the terms that no leading term divides, ascending; raise IdealError for too many."""
        if not self.dimension_zero():
            raise IdealError("there are infinitely many such terms")
        leads = leads_of(self.basis, self.order)
        found = [()]
        for place in range(self.many):
            found = longer_rows(found, leads, self.many, place)
        return tuple(found)


class Growth:
    """Rows, (polynomial, [factors]), which of them others do not replace, and pairs that are still to be divided."""

    def __init__(self, order):
        self.order = order
        self.rows = []
        self.leads = []
        self.standing = []
        self.queue = []
        self.settled = {}
        self.pairs = 0

    def put(self, row):
        """Add what is left of a row after division by the others, if it is not 0."""
        rows = self.standing_rows()
        quotients, rest = divided(row[0], [other[0] for other in rows], self.order)
        if not rest.is_zero():
            self.include(monic_row(rest, factors_left(row[1], quotients, rows), self.order))

    def standing_rows(self):
        """Return the rows that others do not replace."""
        return [self.rows[place] for place in self.standing]

    def include(self, row):
        """Add a row that no other one divides, and its pairs; let it replace those that it divides."""
        place, lead = len(self.rows), row[0].lead(self.order)[0]
        self.rows.append(row)
        self.leads.append(lead)
        for other in self.standing:
            common = joined(self.leads[other], lead)
            heappush(self.queue, (order_key(self.order, common), other, place))
        self.pairs = self.pairs + len(self.standing)
        self.standing = [other for other in self.standing if not divides(lead, self.leads[other])] + [place]
        need_few(self.standing)
        if self.pairs > MOST_PAIRS:
            raise IdealError("a basis has too many pairs")

    def settle_all(self):
        """Divide the pairs, and those that come of what is left of them, until there are none."""
        while self.queue != []:
            _, one, other = heappop(self.queue)
            if not self.is_needless(one, other):
                self.put(self.pair_row(one, other))
            self.settled[one, other] = True

    def is_needless(self, one, other):
        """Return True if nothing can be left of a pair, or other pairs stand for it."""
        common = joined(self.leads[one], self.leads[other])
        if sum(common) == sum(self.leads[one]) + sum(self.leads[other]):
            return True
        return any([self.stands_between(place, one, other, common) for place in range(len(self.rows))])

    def stands_between(self, place, one, other, common):
        """Return True if a row divides what a pair has in common, and its own pairs with both are settled."""
        if place in (one, other) or not divides(self.leads[place], common):
            return False
        pairs = [(min(place, end), max(place, end)) for end in (one, other)]
        return all([pair in self.settled for pair in pairs])

    def pair_row(self, one, other):
        """Return the row of two whose leading terms fall away."""
        common = joined(self.leads[one], self.leads[other])
        left = scaled_row(self.rows[one], quotient(common, self.leads[one]), ONE)
        return plus_rows(left, scaled_row(self.rows[other], quotient(common, self.leads[other]), MINUS_ONE))


def basis_rows(generators, order):
    """Return the rows, (polynomial, [factors]), of the reduced basis of an order, by their polynomials' rows."""
    if order == "lex":
        # With few roots this way is far shorter, as polynomials on the straight way to "lex" grow very long.
        rows = grown_rows(generators, "grevlex")
        if has_few_terms(generators[0].many, leads_of([row[0] for row in rows], "grevlex")):
            return in_order(lex_rows(rows))
    return in_order(grown_rows(generators, order))


def grown_rows(generators, order):
    """Return the rows, (polynomial, [factors]), of the reduced basis of an order."""
    many = generators[0].many
    growth = Growth(order)
    for place in ascending_places(generators, order):
        units = [constant(many, ONE if step == place else ZERO) for step in range(len(generators))]
        growth.put((generators[place], units))
    growth.settle_all()
    rows = growth.standing_rows()
    return [rest_by_others(rows, place, order) for place in range(len(rows))]


def in_order(rows):
    """Return rows, (polynomial, [factors]), ordered by their polynomials' rows."""
    told = sorted([(row[0].shown(), place) for place, row in enumerate(rows)])
    return [rows[place] for _, place in told]


def lex_rows(rows):
    """Return the rows of the reduced basis in the order "lex" by those in "grevlex", with finitely many roots."""
    basis, found = [row[0] for row in rows], []
    for one in lex_basis(basis, basis[0].many):
        quotients = divided(one, basis, "grevlex")[0]
        none = [Terms(one.many) for _ in rows[0][1]]
        found.append((one, products_sum(none, quotients, [row[1] for row in rows])))
    return found


def lex_basis(basis, many):
    """Return the polynomials of the reduced basis in the order "lex" by those in "grevlex".

    Terms are tried upwards: one that is a sum of lesser ones but for a member leads the next polynomial.
    """
    found, leads, steps, rests, queue = [], [], [], {}, [(0,) * many]
    while queue != []:
        exponents = heappop(queue)
        if exponents not in rests and not any([divides(lead, exponents) for lead in leads]):
            rests[exponents] = rest_of_term(exponents, rests, basis)
            left, told = by_steps(rests[exponents], Terms(many, ((exponents, ONE),)), steps)
            if left.is_zero():
                found.append(told)
                leads.append(exponents)
                need_few(found)
            else:
                steps.append((left.lead("lex")[0], left, told))
                for place in range(many):
                    heappush(queue, added(exponents, unit_row(many, place)))
    return found


def rest_of_term(exponents, rests, basis):
    """Return what is left of a term after division by a basis in "grevlex", by what is left of a lesser term."""
    many = len(exponents)
    if sum(exponents) == 0:
        return divided(constant(many, ONE), basis, "grevlex")[1]
    step = unit_row(many, min([place for place in range(many) if exponents[place] > 0]))
    return divided(rests[quotient(exponents, step)].shifted(step, ONE), basis, "grevlex")[1]


def by_steps(one, told, steps):
    """Return a polynomial less multiples of those in (exponents, polynomial, other) steps, and another one likewise."""
    left, other = one, told
    for exponents, part, told_part in steps:
        if exponents in left.rows:
            factor = difference_of(ZERO, quotient_of(left.rows[exponents], part.rows[exponents]))
            left, other = left.plus(part, factor), other.plus(told_part, factor)
    return left, other


def ascending_places(generators, order):
    """Return the places of the generators that are not 0, those with lesser leading terms first."""
    # An order that is unknown is an error also where all generators are 0.
    order_key(order, ())
    used = [place for place, one in enumerate(generators) if not one.is_zero()]
    keys = sorted([(order_key(order, generators[place].lead(order)[0]), place) for place in used])
    return [place for _, place in keys]


def rest_by_others(rows, place, order):
    """Return what is left of a row after division by all others, none of which divides its leading term."""
    others = rows[:place] + rows[place + 1:]
    quotients, rest = divided(rows[place][0], [other[0] for other in others], order)
    return rest, factors_left(rows[place][1], quotients, others)


def factors_left(factors, quotients, rows):
    """Return factors less the quotients' products with those of rows."""
    none = [Terms(one.many) for one in factors]
    taken = products_sum(none, quotients, [row[1] for row in rows])
    return [left.minus(right) for left, right in zip(factors, taken)]


def products_sum(none, quotients, factor_rows):
    """Return, for each factor of rows, the sum of its products with the quotients; as many 0 are passed."""
    found = none
    for part, row in zip(quotients, factor_rows):
        if not part.is_zero():
            found = [left.plus(part.times(right)) for left, right in zip(found, row)]
    return found


def monic_row(one, factors, order):
    """Return the row of a polynomial and its factors, divided by the leading fraction."""
    zero = (0,) * one.many
    return scaled_row((one, factors), zero, quotient_of(ONE, one.lead(order)[1]))


def leads_of(basis, order):
    """Return the exponents of leading terms."""
    return [one.lead(order)[0] for one in basis]


def least_power(leads, place):
    """Return the least exponent with which a variable alone is a leading term, None if it never is."""
    return min([lead[place] for lead in leads if lead[place] == sum(lead)], default=None)


def has_few_terms(many, leads):
    """Return True if only a few terms are divided by no leading term."""
    found = [()]
    for place in range(many):
        if least_power(leads, place) is None or len(found) > MOST_TERMS:
            return False
        found = longer_rows(found, leads, many, place)
    return leads != [] and len(found) <= MOST_TERMS


def longer_rows(rows, leads, many, place):
    """Return rows of exponents with one for a place more, ascending, that no leading term divides."""
    rest = (0,) * (many - place - 1)
    found = [row + (step,) for row in rows for step in range(least_power(leads, place))]
    return [row for row in found if not any([divides(lead, row + rest) for lead in leads])]


def need_few(rows):
    """Raise IdealError for more than 60 polynomials."""
    if len(rows) > MOST_ROWS:
        raise IdealError("a basis grows too large")


def need_variables(many, one):
    """Raise IdealError for a polynomial with another number of variables."""
    if one.many != many:
        raise IdealError("a polynomial has other variables")


def scaled_row(row, exponents, factor):
    """Return a row, (polynomial, [factors]), times a term."""
    return row[0].shifted(exponents, factor), [one.shifted(exponents, factor) for one in row[1]]


def plus_rows(one, other):
    """Return the sum of two rows, (polynomial, [factors])."""
    return one[0].plus(other[0]), [left.plus(right) for left, right in zip(one[1], other[1])]


def same_ideal(one, other):
    """Return True if two ideals have the same members."""
    if one.many != other.many:
        return False
    return all([one.has(row) for row in other.basis]) and all([other.has(row) for row in one.basis])


def elimination(generators, many):
    """Return the members of a basis, in the order "lex", that do not use the first so many variables."""
    return tuple([one for one in Ideal(generators, "lex").basis if not uses_first(one, many)])


def uses_first(one, many):
    """Return True if a polynomial uses one of the first so many variables."""
    return any([any(exponents[:many]) for exponents in one.rows])


def in_radical(generators, one):
    """Return True if some power of a polynomial is a member, by a variable more."""
    if len(generators) == 0:
        raise IdealError("there are no generators")
    for generator in generators:
        need_variables(generator.many, one)
    # Where the polynomial is not 0 the new variable is its inverse: without a common root, nothing fits.
    turned = with_more(one).shifted((0,) * one.many + (1,), MINUS_ONE).plus(constant(one.many + 1, ONE))
    return Ideal([with_more(generator) for generator in generators] + [turned]).is_all()


def with_more(one):
    """Return a polynomial with one variable more, which it does not use."""
    return Terms(one.many + 1, [(exponents + (0,), number) for exponents, number in one.rows.items()])


def one_variable(one, place):
    """Return a polynomial that uses one variable alone as a row of coefficients; raise IdealError for another one."""
    row = [ZERO] * (one.degree() + 1)
    for exponents, number in one.rows.items():
        if sum(exponents) != exponents[place]:
            raise IdealError("a polynomial has other variables")
        row[exponents[place]] = number
    return trimmed(Field(), row)


def put_in(one, place, number):
    """Return a polynomial with a fraction in the place of a variable, which stays unused."""
    rows = []
    for exponents, factor in one.rows.items():
        left = exponents[:place] + (0,) + exponents[place + 1:]
        rows.append((left, product_of(factor, repeated(product_of, ONE, number, exponents[place]))))
    return Terms(one.many, rows)
