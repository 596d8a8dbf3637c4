"""Session: lines that name expressions and ask about them."""

from algebrastack.errors import AlgebraError, TextError
from algebrastack.expressions import (
    as_poly,
    as_quotient,
    as_terms,
    names_in,
    parse,
    poly_text,
    put_for,
    quotient_text,
    tree_size,
)
from algebrastack.factors import factors
from algebrastack.fractions import Quotient, integral, parted
from algebrastack.groups import Group, from_cycles
from algebrastack.ideals import Ideal
from algebrastack.integers import bezout, prime_factors
from algebrastack.matrices import characteristic, checked, determinant, inverse_matrix, rank
from algebrastack.polys import Field, poly, poly_bezout, poly_common, poly_divided, resultant
from algebrastack.rationals import ONE, ZERO, rational_text
from algebrastack.series import quotient_series
from algebrastack.solving import solve_linear, solve_one, solve_points
from algebrastack.sums import shortest_rule, sum_to
from algebrastack.terms import ORDERS, terms_text

BLANK = " "
DIGITS = "0123456789"
LETTERS = "abcdefghijklmnopqrstuvwxyz"
PLAIN_NAME = "x"
PLAIN_ORDER = "grevlex"
MOST_PARTS = 300
MOST_LENGTH = 30
MOST_DIGITS_OF_PLACE = 3


class Session:
    """Trees by name, in the order in which they were told first."""

    def __init__(self):
        self.known = {}

    def enter(self, line):
        """Carry out a line and return its answer; "error" for one that cannot be, which changes nothing."""
        try:
            return self.answer(line)
        except AlgebraError:
            return "error"

    def answer(self, line):
        """Carry out a line and return its answer; raise an AlgebraError for one that cannot be."""
        word, _, text = line.strip(BLANK).partition(BLANK)
        if word == "let":
            return self.let(text)
        if word not in ANSWERS:
            raise TextError("a line asks for nothing that is known")
        action = ANSWERS[word]
        return action(self, text)

    def let(self, text):
        """Let a name stand for an expression, in which what names stand for now is put in."""
        left, mark, right = text.partition("=")
        name = left.strip(BLANK)
        if mark == "" or name == "" or any([letter not in LETTERS for letter in name]):
            raise TextError("a name or an expression is missing")
        tree = self.read_tree(right)
        if name in names_in(tree):
            raise TextError("a name stands in its own expression")
        self.known[name] = tree
        return f"let {name}"

    def read_tree(self, text):
        """Return the tree of an expression, in which what names stand for now is put in."""
        found = parse(text)
        # What a name stands for holds no name that was known when it was told: only names that were told first later
        # stand in it, and these are still to be put in.
        for name in self.known:
            if name in names_in(found):
                found = put_for(found, name, self.known[name])
                if tree_size(found) > MOST_PARTS:
                    raise TextError("an expression is put together of too many parts")
        return found

    def read_trees(self, text):
        """Return the trees of expressions between ";"."""
        return [self.read_tree(part) for part in text.split(";")]

    def read_quotient(self, text):
        """Return (quotient, name) of an expression in one name at most."""
        tree = self.read_tree(text)
        name = name_of([tree])
        return as_quotient(tree, name), name

    def read_poly(self, text):
        """Return (polynomial, name) of an expression in one name at most."""
        tree = self.read_tree(text)
        name = name_of([tree])
        return as_poly(tree, name), name

    def read_two(self, text):
        """Return (polynomial, other, name) of two expressions between ";" in one name at most."""
        trees = self.read_trees(text)
        if len(trees) != 2:
            raise TextError("there are not two polynomials")
        name = name_of(trees)
        return as_poly(trees[0], name), as_poly(trees[1], name), name

    def read_terms(self, text):
        """Return (polynomials, names ascending) of expressions between ";"."""
        trees = self.read_trees(text)
        names = names_of(trees)
        return [as_terms(tree, names) for tree in trees], names

    def read_number(self, text):
        """Return the fraction that an expression without names is."""
        tree = self.read_tree(text)
        if names_in(tree) != ():
            raise TextError("an expression is no number")
        found = as_poly(tree, PLAIN_NAME)
        return ZERO if found == () else found[0]

    def read_numbers(self, text):
        """Return the fractions that expressions between "," are."""
        return tuple([self.read_number(part) for part in text.split(",")])

    def read_whole(self, text):
        """Return the whole number that an expression without names is."""
        above, below = self.read_number(text)
        if below != 1:
            raise TextError("a number is not whole")
        return above

    def read_matrix(self, text):
        """Return the matrix of rows between ";" of numbers between ","."""
        return checked([self.read_numbers(row) for row in text.split(";")])


def names_of(trees):
    """Return the names in trees, ascending, the plain one if there is none."""
    found = sorted({name: True for tree in trees for name in names_in(tree)})
    return tuple(found) if found != [] else (PLAIN_NAME,)


def name_of(trees):
    """Return the one name in trees, the plain one if there is none; raise TextError for several."""
    names = names_of(trees)
    if len(names) > 1:
        raise TextError("an expression has several names")
    return names[0]


def simplify_line(session, text):
    """Return a quotient in lowest terms as text."""
    found, name = session.read_quotient(text)
    return quotient_text(found, name)


def factor_line(session, text):
    """Return the factors of a polynomial as text."""
    one, name = session.read_poly(text)
    number, rows = factors(one)
    parts = [] if number == ONE and rows != () else [rational_text(number)]
    for numbers, exponent in rows:
        part = f"({poly_text(poly(Field(), numbers), name)})"
        parts.append(part if exponent == 1 else f"{part}^{exponent}")
    return " * ".join(parts)


def diff_line(session, text):
    """Return the slope of a quotient as text."""
    found, name = session.read_quotient(text)
    return quotient_text(found.slope(), name)


def integrate_line(session, text):
    """Return "f and g" where f's slope plus g is a quotient, "f" alone if g is 0."""
    found, name = session.read_quotient(text)
    one, (above, below) = integral(found)
    told = quotient_text(one, name)
    return told if above == () else f"{told} and {quotient_text(Quotient(above, below), name)}"


def apart_line(session, text):
    """Return a quotient as a sum of a polynomial and quotients by powers as text."""
    found, name = session.read_quotient(text)
    whole, rows = parted(found)
    parts = [poly_text(whole, name)]
    for above, below, exponent in rows:
        parts.append(f"({poly_text(above, name)})/({poly_text(below, name)})^{exponent}")
    return " + ".join(parts)


def sum_line(session, text):
    """Return the sum of a polynomial's values at 0 to a number, as a polynomial of this, as text."""
    one, name = session.read_poly(text)
    return poly_text(sum_to(one), name)


def roots_line(session, text):
    """Return the real roots of a polynomial as text: fractions, then the others between two fractions."""
    exact, others = solve_one(session.read_poly(text)[0])
    parts = [rational_text(number) for number in exact]
    parts = parts + [f"in ({rational_text(root.low)}, {rational_text(root.high)})" for root in others]
    return ", ".join(parts) if parts != [] else "none"


def series_line(session, text):
    """Return the series of a quotient, of a length from 1 to 30, as text."""
    left, mark, right = text.partition(";")
    if mark == "":
        raise TextError("a length is missing")
    found, length = session.read_quotient(left)[0], session.read_whole(right)
    if not 1 <= length <= MOST_LENGTH:
        raise TextError("a length is not from 1 to 30")
    return numbers_text(quotient_series(found.above, found.below, length))


def gcd_line(session, text):
    """Return the greatest common divisor of two polynomials as text."""
    one, other, name = session.read_two(text)
    return poly_text(poly_common(Field(), one, other), name)


def resultant_line(session, text):
    """Return the resultant of two polynomials as text."""
    one, other, _ = session.read_two(text)
    return rational_text(resultant(Field(), one, other))


def divide_line(session, text):
    """Return the quotient and the remainder of two polynomials as text."""
    one, other, name = session.read_two(text)
    found, rest = poly_divided(Field(), one, other)
    return f"{poly_text(found, name)} rest {poly_text(rest, name)}"


def bezout_line(session, text):
    """Return "d a b" where d = a x + b y is a common divisor of x; y, polynomials, or x, y, whole numbers."""
    if ";" in text:
        one, other, name = session.read_two(text)
        return BLANK.join([poly_text(part, name) for part in poly_bezout(Field(), one, other)])
    parts = text.split(",")
    if len(parts) != 2:
        raise TextError("there are not two numbers")
    found = bezout(session.read_whole(parts[0]), session.read_whole(parts[1]))
    return BLANK.join([rational_text((number, 1)) for number in found])


def ordered(text):
    """Return (order, text): an order that stands before the rest of a text, the plain one if there is none."""
    word, _, rest = text.strip(BLANK).partition(BLANK)
    return (word, rest) if word in ORDERS else (PLAIN_ORDER, text)


def basis_line(session, text):
    """Return the basis of an ideal as text."""
    order, rest = ordered(text)
    generators, names = session.read_terms(rest)
    return "; ".join([terms_text(one, names, order) for one in Ideal(generators, order).basis])


def member_line(session, text):
    """Return the factors by generators that prove a member as text, or "no"."""
    order, rest = ordered(text)
    found, names = session.read_terms(rest)
    left, proof = Ideal(found[1:], order).member(found[0])
    return "; ".join([terms_text(one, names, order) for one in proof]) if left.is_zero() else "no"


def solve_line(session, text):
    """Return the points of fractions where polynomials are 0 as text."""
    equations, names = session.read_terms(text)
    points = solve_points(equations)
    return "; ".join([point_text(point, names) for point in points]) if points != () else "none"


def linear_line(session, text):
    """Return a point where linear polynomials are 0, and in how many directions it is free, as text."""
    equations, names = session.read_terms(text)
    found = solve_linear(equations)
    if found is None:
        return "none"
    point, free = found
    return point_text(point, names) + (f" and {len(free)} free" if len(free) > 0 else "")


def point_text(point, names):
    """Return a point as text."""
    return ", ".join([f"{name} = {rational_text(number)}" for name, number in zip(names, point)])


def numbers_text(row):
    """Return fractions as text."""
    return ", ".join([rational_text(number) for number in row])


def det_line(session, text):
    """Return the determinant of a matrix as text."""
    return rational_text(determinant(session.read_matrix(text)))


def rank_line(session, text):
    """Return the rank of a matrix as text."""
    return f"{rank(session.read_matrix(text))}"


def inverse_line(session, text):
    """Return the inverse of a matrix as text."""
    return "; ".join([numbers_text(row) for row in inverse_matrix(session.read_matrix(text))])


def charpoly_line(session, text):
    """Return the characteristic polynomial of a matrix as text."""
    return poly_text(characteristic(session.read_matrix(text)), PLAIN_NAME)


def rule_line(session, text):
    """Return the shortest rule by which numbers go on as text."""
    return numbers_text(shortest_rule(session.read_numbers(text), Field()))


def primes_line(session, text):
    """Return the prime factors of a whole number as text."""
    return BLANK.join([f"{prime}^{exponent}" for prime, exponent in prime_factors(session.read_whole(text))])


def group_line(session, text):
    """Return how many permutations a group of so many places has, and its orbits, as text; cycles tell its generators.

    Places are plain numbers: nothing that was told in the session counts.
    """
    word, _, rest = text.strip(BLANK).partition(BLANK)
    many = place_in(word)
    group = Group([from_cycles(cycles_in(part), many) for part in rest.split(",")], many)
    orbits = [BLANK.join([f"{place}" for place in orbit]) for orbit in group.orbits()]
    return f"{group.count_all()}: " + BLANK.join([f"({orbit})" for orbit in orbits])


def place_in(word):
    """Return the whole number from 0 on of a word of digits; raise TextError for another word, or a long one."""
    if not 1 <= len(word) <= MOST_DIGITS_OF_PLACE or any([sign not in DIGITS for sign in word]):
        raise TextError("a place is no number")
    return int(word)


def cycles_in(text):
    """Return the cycles of a text, places between blanks in brackets; raise TextError for none."""
    found, left = [], text.strip(BLANK)
    while left != "":
        inner, mark, rest = left.partition(")")
        words = [word for word in inner[1:].split(BLANK) if word != ""]
        if mark == "" or inner[:1] != "(" or words == []:
            raise TextError("a cycle is missing")
        found.append(tuple([place_in(word) for word in words]))
        left = rest.strip(BLANK)
    if found == []:
        raise TextError("there are no cycles")
    return found


ANSWERS = {
    "simplify": simplify_line,
    "factor": factor_line,
    "diff": diff_line,
    "integrate": integrate_line,
    "apart": apart_line,
    "sum": sum_line,
    "roots": roots_line,
    "series": series_line,
    "gcd": gcd_line,
    "resultant": resultant_line,
    "divide": divide_line,
    "bezout": bezout_line,
    "basis": basis_line,
    "member": member_line,
    "solve": solve_line,
    "linear": linear_line,
    "det": det_line,
    "rank": rank_line,
    "inverse": inverse_line,
    "charpoly": charpoly_line,
    "rule": rule_line,
    "primes": primes_line,
    "group": group_line,
}
