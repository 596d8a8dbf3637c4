"""Expressions: texts with names, numbers, brackets and calls, as trees, and what they are worth.

Trees: ("number", fraction), ("name", name), ("sum", a, b), ("difference", a, b), ("product", a, b), ("quotient", a, b),
("power", a, whole number), ("negative", a), ("call", name, (trees)).
"""

from algebrastack.errors import TextError
from algebrastack.fractions import Quotient
from algebrastack.polys import degree_of
from algebrastack.rationals import (
    ONE,
    ZERO,
    difference_of,
    few_digits,
    quotient_of,
    raised,
    rational_text,
    sign,
)
from algebrastack.terms import Terms, constant, terms_power, variable

SIGNS = {"+": "sum", "-": "difference", "*": "product", "/": "quotient"}
JOINTS = {"sum": " + ", "difference": " - ", "product": "*", "quotient": "/"}
STRENGTHS = {"sum": 1, "difference": 1, "product": 2, "quotient": 2, "negative": 3, "power": 4}
ATOM = 5
MOST_OPEN = 40
MOST_SIGNS = 150
MOST_DIGITS_READ = 30
MOST_EXPONENT = 60
MOST_DEGREE_HERE = 200
MOST_DEGREE_OF_TERMS = 40
BLANK = " "
DIGITS = "0123456789"
LETTERS = "abcdefghijklmnopqrstuvwxyz"


class ExpressionReader:
    """A text, a place in it, how many parts are open, and how many signs joined parts."""

    def __init__(self, text):
        self.text = text
        self.place = 0
        self.depth = 0
        self.many = 0

    def here(self):
        """Return the next sign after blanks, "" at the end."""
        while self.text[self.place:self.place + 1] == BLANK:
            self.place = self.place + 1
        return self.text[self.place:self.place + 1]

    def count(self):
        """Count a sum, a difference, a product or a quotient; raise TextError for more than 150 in a text."""
        self.many = self.many + 1
        if self.many > MOST_SIGNS:
            raise TextError("a text has more than 150 signs that join parts")

    def takes(self, mark):
        """Return True, and go on behind it, if a sign stands next."""
        if self.here() != mark:
            return False
        self.place = self.place + 1
        return True

    def need(self, mark):
        """Go on behind a sign; raise TextError if it does not stand next."""
        if not self.takes(mark):
            raise TextError("a sign is missing")

    def run_of(self, marks):
        """Return the signs of some kind that stand together next, "" for none."""
        self.here()
        start = self.place
        while self.text[self.place:self.place + 1] != "" and self.text[self.place] in marks:
            self.place = self.place + 1
        return self.text[start:self.place]

    def open_one(self):
        """Count a part that is open; raise TextError for more than 40."""
        self.depth = self.depth + 1
        if self.depth > MOST_OPEN:
            raise TextError("more than 40 brackets and minus signs are open")

    def close_one(self):
        """Count a part that is open no more."""
        self.depth = self.depth - 1

    def read_sum(self):
        """Return the tree of a whole expression, or of what stands in brackets."""
        self.open_one()
        found = self.read_product()
        while self.here() != "" and self.here() in "+-":
            word = self.read_joint()
            found = (word, found, self.read_product())
        self.close_one()
        return found

    def read_product(self):
        """Return the tree of products and quotients."""
        found = self.read_negative()
        while self.here() != "" and self.here() in "*/":
            word = self.read_joint()
            found = (word, found, self.read_negative())
        return found

    def read_joint(self):
        """Return the word of a sign that joins parts, and go on behind it."""
        word = SIGNS[self.here()]
        self.count()
        self.place = self.place + 1
        return word

    def read_negative(self):
        """Return the tree of a power, perhaps with minus signs before it."""
        if not self.takes("-"):
            return self.read_power()
        self.open_one()
        found = ("negative", self.read_negative())
        self.close_one()
        return found

    def read_power(self):
        """Return the tree of an atom, perhaps with an exponent."""
        found = self.read_atom()
        if not self.takes("^"):
            return found
        below = self.takes("-")
        digits = self.run_of(DIGITS)
        if not 1 <= len(digits) <= 2 or int(digits) > MOST_EXPONENT:
            raise TextError("an exponent is no whole number up to 60")
        return "power", found, (0 - int(digits) if below else int(digits))

    def read_atom(self):
        """Return the tree of a number, a name, a call, or of what stands in brackets."""
        if self.takes("("):
            found = self.read_sum()
            self.need(")")
            return found
        digits = self.run_of(DIGITS)
        if digits != "":
            if len(digits) > MOST_DIGITS_READ:
                raise TextError("a number has more than 30 digits")
            return "number", (int(digits), 1)
        name = self.run_of(LETTERS)
        if name == "":
            raise TextError("a part is missing")
        return self.read_call(name) if self.takes("(") else ("name", name)

    def read_call(self, name):
        """Return the tree of a call whose bracket was opened."""
        parts = [self.read_sum()]
        while self.takes(","):
            parts.append(self.read_sum())
        self.need(")")
        return "call", name, tuple(parts)


def parse(text):
    """Return the tree of a text; raise TextError for another one."""
    reader = ExpressionReader(text)
    found = reader.read_sum()
    if reader.here() != "":
        raise TextError("something stands behind an expression")
    return found


def strength(tree):
    """Return how tightly a tree binds."""
    if tree[0] == "number":
        # A number that is no whole one from 0 on reads as a quotient, or as a minus sign before the rest.
        if tree[1][1] != 1:
            return STRENGTHS["quotient"]
        return STRENGTHS["negative"] if tree[1][0] < 0 else ATOM
    return STRENGTHS.get(tree[0], ATOM)


def part_text(tree, least):
    """Return a tree as text, in brackets if it binds less tightly than needed."""
    word, own = tree[0], strength(tree)
    if word == "number":
        found = rational_text(tree[1])
    elif word == "name":
        found = tree[1]
    elif word == "call":
        found = tree[1] + "(" + ", ".join([part_text(part, 0) for part in tree[2]]) + ")"
    elif word == "negative":
        found = "-" + part_text(tree[1], own)
    elif word == "power":
        found = f"{part_text(tree[1], ATOM)}^{tree[2]}"
    else:
        # What stands on the right is joined first only in brackets.
        found = part_text(tree[1], own) + JOINTS[word] + part_text(tree[2], own + 1)
    return "(" + found + ")" if own < least else found


def expression_text(tree):
    """Return a tree as text, with brackets only where they are needed."""
    return part_text(tree, 0)


def parts_of(tree):
    """Return the trees of which a tree is made."""
    if tree[0] in ("number", "name"):
        return ()
    if tree[0] == "call":
        return tree[2]
    return tree[1:2] if tree[0] in ("negative", "power") else tree[1:]


def names_in(tree):
    """Return the names in a tree, ascending."""
    found, left = {}, [tree]
    while left != []:
        one = left.pop()
        if one[0] == "name":
            found[one[1]] = True
        left = left + list(parts_of(one))
    return tuple(sorted(found))


def put_for(tree, name, other):
    """Return a tree with another one in the places of a name."""
    word = tree[0]
    if word == "name":
        return other if tree[1] == name else tree
    if word == "number":
        return tree
    if word == "call":
        return word, tree[1], tuple([put_for(part, name, other) for part in tree[2]])
    if word == "power":
        return word, put_for(tree[1], name, other), tree[2]
    if word == "negative":
        return word, put_for(tree[1], name, other)
    return word, put_for(tree[1], name, other), put_for(tree[2], name, other)


def as_quotient(tree, name):
    """Return a tree as a quotient of polynomials in a name; raise TextError for other names or calls, NumberError."""
    word = tree[0]
    if word == "number":
        return Quotient((tree[1],) if tree[1] != ZERO else ())
    if word == "name":
        if tree[1] != name:
            raise TextError("an expression has another name")
        return Quotient((ZERO, ONE))
    if word == "call":
        raise TextError("an expression has a call")
    one = as_quotient(tree[1], name)
    if word == "negative":
        return one.negated()
    if word == "power":
        return power_of(one, tree[2])
    other = as_quotient(tree[2], name)
    if word == "product":
        return product_here(one, other)
    if word == "quotient":
        return product_here(one, other.turned())
    return sum_here(one, other if word == "sum" else other.negated())


def need_small(many):
    """Raise TextError for a number above 200: larger polynomials are not reckoned, with several names to degree 40."""
    if many > MOST_DEGREE_HERE:
        raise TextError("a polynomial has more than 200 coefficients")


def product_here(one, other):
    """Return a product of quotients; raise TextError for too many coefficients."""
    need_small(len(one.above) + len(other.above) - 1)
    need_small(len(one.below) + len(other.below) - 1)
    return one.multiplied(other)


def sum_here(one, other):
    """Return a sum of quotients; raise TextError for too many coefficients."""
    need_small(max(len(one.above) + len(other.below), len(other.above) + len(one.below)) - 1)
    need_small(len(one.below) + len(other.below) - 1)
    return one.added(other)


def power_of(one, exponent):
    """Return a power of a quotient; raise TextError for too many coefficients, NumberError for too many digits."""
    size = abs(exponent)
    for part in (one.above, one.below):
        need_small((len(part) - 1) * size + 1)
        # The powers of the first and the last number but 0 stand in the power: if they are too long, it is not made.
        ends = [number for number in part if number != ZERO]
        for number in ends[:1] + ends[-1:]:
            raised(number, size)
    found = one.raised_to(exponent)
    for number in found.above + found.below:
        few_digits(number)
    return found


def tree_size(tree):
    """Return the number of parts of a tree."""
    found, left = 0, [tree]
    while left != []:
        found = found + 1
        left = left + list(parts_of(left.pop()))
    return found


def as_poly(tree, name):
    """Return a tree as a polynomial in a name; raise TextError for another one."""
    found = as_quotient(tree, name)
    if degree_of(found.below) > 0:
        raise TextError("an expression is no polynomial")
    return found.above


def as_terms(tree, names):
    """Return a tree as a polynomial in names; raise TextError for another one."""
    word, many = tree[0], len(names)
    if word == "number":
        return constant(many, tree[1])
    if word == "name":
        if tree[1] not in names:
            raise TextError("an expression has another name")
        return variable(many, list(names).index(tree[1]))
    if word == "call" or (word == "power" and tree[2] < 0):
        raise TextError("an expression is no polynomial")
    one = as_terms(tree[1], names)
    if word == "negative":
        return Terms(many).minus(one)
    if word == "power":
        return terms_power_here(one, tree[2])
    other = as_terms(tree[2], names)
    if word == "sum":
        return one.plus(other)
    if word == "difference":
        return one.minus(other)
    if word == "product":
        need_low(one.degree() + other.degree())
        return one.times(other)
    if other.degree() != 0:
        raise TextError("an expression is no polynomial")
    return Terms(many).plus(one, quotient_of(ONE, other.lead("lex")[1]))


def need_low(degree):
    """Raise TextError for a polynomial in several names of a degree above 40."""
    if degree > MOST_DEGREE_OF_TERMS:
        raise TextError("a polynomial has a degree above 40")


def terms_power_here(one, exponent):
    """Return a power of a polynomial in names; raise TextError for a high degree, NumberError for too many digits."""
    need_low(one.degree() * exponent)
    found = terms_power(one, exponent)
    for number in found.rows.values():
        few_digits(number)
    return found


def poly_tree(one, name):
    """Return a polynomial as a tree: its terms, the greatest power first."""
    found = ()
    for place in reversed(range(len(one))):
        if one[place] != ZERO:
            below = sign(one[place]) < 0
            part = term_tree(difference_of(ZERO, one[place]) if below else one[place], name, place)
            if found == ():
                found = ("negative", part) if below else part
            else:
                found = ("difference" if below else "sum", found, part)
    return found if found != () else ("number", ZERO)


def term_tree(number, name, exponent):
    """Return a number above 0 times a power of a name as a tree."""
    if exponent == 0:
        return "number", number
    base = ("name", name)
    powered = base if exponent == 1 else ("power", base, exponent)
    return powered if number == ONE else ("product", ("number", number), powered)


def poly_text(one, name):
    """Return a polynomial as text."""
    return expression_text(poly_tree(one, name))


def quotient_text(one, name):
    """Return a quotient as text."""
    if degree_of(one.below) == 0:
        return poly_text(one.above, name)
    return expression_text(("quotient", poly_tree(one.above, name), poly_tree(one.below, name)))
