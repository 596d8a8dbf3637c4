"""Programs: the greatest sum of fractions times factors under linear conditions, with proofs of what is told.

A program is: conditions (row of factors, bound): the row times the unknowns is at most the bound; the unknowns are not
below 0; and the factors of the sum that is to be greatest.
"""

from algebrastack.errors import MatrixError
from algebrastack.matrices import dot
from algebrastack.rationals import ONE, ZERO, compared, difference_of, quotient_of, rational, sign

MINUS_ONE = (-1, 1)
MOST_UNKNOWNS = 30
MOST_CONDITIONS = 30


class Outcome:
    """A word, and what proves it; what an outcome has not is None.

    "greatest": the sum, the unknowns, and a factor for each condition; "none": factors for the conditions; "endless":
    the unknowns where it begins, and a direction.
    """

    def __init__(self, word, total, point, proof):
        self.word = word
        self.total = total
        self.point = point
        self.proof = proof

    def shown(self):
        """Return (word, sum, point, proof)."""
        return self.word, self.total, self.point, self.proof


class Tableau:
    """Rows of fractions with a right side each, which unknown each row tells, and the row of what is to be greatest.

    Unknowns are numbered: those told, then what each condition leaves free, then helpers. The right side stands last
    in a row; in the row of what is to be greatest, that is the sum so far, below 0.
    """

    def __init__(self, rows, basis, goal):
        self.rows = [list(row) for row in rows]
        self.basis = list(basis)
        self.goal = list(goal)

    def told_point(self, many):
        """Return the values of the first so many unknowns."""
        found = [ZERO] * many
        for row, unknown in zip(self.rows, self.basis):
            if unknown < many:
                found[unknown] = row[-1]
        return tuple(found)

    def told_sum(self):
        """Return what is to be greatest so far."""
        return negated(self.goal[-1])

    def aim_at(self, factors):
        """Let a row of factors, one for each unknown, be what is to be greatest."""
        self.goal = list(factors) + [ZERO]
        for row, unknown in zip(self.rows, self.basis):
            self.goal = less_times(self.goal, row, self.goal[unknown])

    def first_helping(self):
        """Return the first unknown that lets the sum grow, None if none does."""
        for unknown in range(len(self.goal) - 1):
            if sign(self.goal[unknown]) > 0:
                return unknown
        return None

    def first_binding(self, unknown):
        """Return the row that binds an unknown first, of equals that of the least unknown, None if none binds it."""
        found, least = None, ZERO
        for place, row in enumerate(self.rows):
            if sign(row[unknown]) > 0:
                room = quotient_of(row[-1], row[unknown])
                order = -1 if found is None else compared(room, least)
                if order < 0 or (order == 0 and self.basis[place] < self.basis[found]):
                    found, least = place, room
        return found

    def bring_in(self, place, unknown):
        """Let a row tell an unknown."""
        lead = self.rows[place][unknown]
        told = [number if number == ZERO else quotient_of(number, lead) for number in self.rows[place]]
        self.rows = [less_times(row, told, row[unknown]) for row in self.rows]
        self.rows[place] = told
        self.goal = less_times(self.goal, told, self.goal[unknown])
        self.basis[place] = unknown

    def grow(self):
        """Bring in unknowns until the sum is the greatest; return None, or the unknown that lets it grow endlessly."""
        unknown = self.first_helping()
        while unknown is not None:
            place = self.first_binding(unknown)
            if place is None:
                return unknown
            self.bring_in(place, unknown)
            unknown = self.first_helping()
        return None

    def drop_helpers(self, first):
        """Leave out the unknowns from one on, all of which are 0."""
        for place in range(len(self.rows)):
            if self.basis[place] >= first:
                # A row without helpers is never all 0, for each condition leaves something of its own free.
                used = [unknown for unknown in range(first) if self.rows[place][unknown] != ZERO]
                self.bring_in(place, used[0])
        self.rows = [row[:first] + row[-1:] for row in self.rows]

    def proof_factors(self, many, first):
        """Return a factor for each condition, by what an unknown left free would bring."""
        return tuple([negated(number) for number in self.goal[many:first]])

    def direction(self, many, unknown):
        """Return by how much the first so many unknowns change where another one grows."""
        found = [ONE if place == unknown else ZERO for place in range(many)]
        for row, told in zip(self.rows, self.basis):
            if told < many:
                found[told] = negated(row[unknown])
        return tuple(found)


def negated(one):
    """Return a fraction with the other sign."""
    return 0 - one[0], one[1]


def less_times(one, other, factor):
    """Return a row of fractions less a multiple of another one."""
    if factor == ZERO:
        return one
    above, below = factor
    return [
        number if taken == ZERO
        else rational(number[0] * taken[1] * below - number[1] * taken[0] * above, number[1] * taken[1] * below)
        for number, taken in zip(one, other)
    ]


def need_program(conditions, factors):
    """Raise MatrixError for what is no program."""
    if not 1 <= len(factors) <= MOST_UNKNOWNS or len(conditions) > MOST_CONDITIONS:
        raise MatrixError("a program has from 1 to 30 unknowns and at most 30 conditions")
    if any([len(row) != len(factors) for row, _ in conditions]):
        raise MatrixError("a condition has another number of factors")


def begun(conditions, many):
    """Return the tableau of conditions in so many unknowns, with a helper for each bound below 0."""
    below = [place for place, condition in enumerate(conditions) if sign(condition[1]) < 0]
    first = many + len(conditions)
    rows, basis = [], []
    for place, (row, bound) in enumerate(conditions):
        side = MINUS_ONE if place in below else ONE
        free = [side if step == place else ZERO for step in range(len(conditions))]
        helpers = [ONE if step == place else ZERO for step in below]
        told = list(row) + [bound]
        if place in below:
            told = [negated(number) for number in told]
        rows.append(told[:-1] + free + helpers + told[-1:])
        basis.append(first + below.index(place) if place in below else many + place)
    return Tableau(rows, basis, [ZERO] * (first + len(below) + 1))


def solve_program(conditions, factors):
    """Return the outcome of a program; raise MatrixError for none."""
    need_program(conditions, factors)
    many = len(factors)
    first = many + len(conditions)
    tableau = begun(conditions, many)
    helpers = len(tableau.goal) - 1 - first
    if helpers > 0:
        tableau.aim_at([ZERO] * first + [MINUS_ONE] * helpers)
        tableau.grow()
        if sign(tableau.told_sum()) < 0:
            return Outcome("none", None, None, tableau.proof_factors(many, first))
        tableau.drop_helpers(first)
    tableau.aim_at(list(factors) + [ZERO] * len(conditions))
    unknown = tableau.grow()
    point = tableau.told_point(many)
    if unknown is not None:
        return Outcome("endless", None, point, tableau.direction(many, unknown))
    return Outcome("greatest", tableau.told_sum(), point, tableau.proof_factors(many, first))


def total_of(factors, point):
    """Return the sum of fractions times factors."""
    return dot(factors, point)


def proves(conditions, factors, outcome):
    """Return True if what stands in an outcome proves its word.

    A greatest sum: the point holds all conditions, the factors are not below 0, the rows times these are at least the
    sum's factors, and the bounds times these are the sum. None: the rows times the factors are not below 0, and the
    bounds times these are. Endless: the point holds, and the direction lets all rows be at most 0 and the sum above.
    """
    word, total, point, proof = outcome.shown()
    if word == "greatest":
        fits = holds(conditions, factors, point) and total == total_of(factors, point)
        return fits and is_row(proof, len(conditions)) and bounds_sum(conditions, factors, proof) == total
    if word == "none":
        if total is not None or point is not None or not is_row(proof, len(conditions)):
            return False
        found = bounds_sum(conditions, [ZERO] * len(factors), proof)
        return found is not None and sign(found) < 0
    if word != "endless" or total is not None or not holds(conditions, factors, point):
        return False
    falls = is_row(proof, len(factors)) and all([sign(total_of(row, proof)) <= 0 for row, _ in conditions])
    return falls and sign(total_of(factors, proof)) > 0


def is_row(row, many):
    """Return True for a row of so many fractions, none of which is below 0."""
    return row is not None and len(row) == many and all([sign(number) >= 0 for number in row])


def holds(conditions, factors, point):
    """Return True if a point, which has a number from 0 on for each factor, holds all conditions."""
    if not is_row(point, len(factors)):
        return False
    return all([sign(difference_of(total_of(row, point), bound)) <= 0 for row, bound in conditions])


def bounds_sum(conditions, factors, proof):
    """Return the bounds times factors for the conditions, None if the rows times these are below a sum's factors."""
    for place, factor in enumerate(factors):
        if compared(dot([row[place] for row, _ in conditions], proof), factor) < 0:
            return None
    return dot([bound for _, bound in conditions], proof)
