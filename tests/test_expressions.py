import unittest
from fractions import Fraction

from algebrastack.errors import NumberError, TextError
from algebrastack.expressions import (
    ExpressionReader,
    as_poly,
    as_quotient,
    as_terms,
    expression_text,
    names_in,
    need_small,
    parse,
    part_text,
    poly_text,
    poly_tree,
    put_for,
    quotient_text,
    strength,
    tree_size,
)
from algebrastack.fractions import Quotient
from algebrastack.polys import Field, poly
from algebrastack.terms import terms_text

X, Y, Z = ("name", "x"), ("name", "y"), ("name", "z")
ONE, TWO = ("number", (1, 1)), ("number", (2, 1))

TREES = (
    ("x", X),
    ("12", ("number", (12, 1))),
    ("x + y", ("sum", X, Y)),
    ("x - y - z", ("difference", ("difference", X, Y), Z)),
    ("x - (y - z)", ("difference", X, ("difference", Y, Z))),
    ("x - y + z", ("sum", ("difference", X, Y), Z)),
    ("x + (y + z)", ("sum", X, ("sum", Y, Z))),
    ("x*y/z", ("quotient", ("product", X, Y), Z)),
    ("x/(y*z)", ("quotient", X, ("product", Y, Z))),
    ("x*(y*z)", ("product", X, ("product", Y, Z))),
    ("x + y*z", ("sum", X, ("product", Y, Z))),
    ("(x + y)*z", ("product", ("sum", X, Y), Z)),
    ("-x", ("negative", X)),
    ("--x", ("negative", ("negative", X))),
    ("-x^2", ("negative", ("power", X, 2))),
    ("(-x)^2", ("power", ("negative", X), 2)),
    ("-x*y", ("product", ("negative", X), Y)),
    ("-(x*y)", ("negative", ("product", X, Y))),
    ("x*-y", ("product", X, ("negative", Y))),
    ("x - -y", ("difference", X, ("negative", Y))),
    ("-(x + y)", ("negative", ("sum", X, Y))),
    ("x^0", ("power", X, 0)),
    ("x^-12", ("power", X, -12)),
    ("x^60", ("power", X, 60)),
    ("(x^2)^3", ("power", ("power", X, 2), 3)),
    ("(x*y)^2", ("power", ("product", X, Y), 2)),
    ("2^3", ("power", TWO, 3)),
    ("sin(x)", ("call", "sin", (X,))),
    ("gcd(x, y + z)", ("call", "gcd", (X, ("sum", Y, Z)))),
    ("f(g(x), -y)^2", ("power", ("call", "f", (("call", "g", (X,)), ("negative", Y))), 2)),
    ("abc", ("name", "abc")),
    ("9" * 30, ("number", (10 ** 30 - 1, 1))),
)


class ParseTest(unittest.TestCase):
    def test_trees_and_their_texts(self):
        for text, tree in TREES:
            self.assertEqual(parse(text), tree)
            self.assertEqual(expression_text(tree), text)

    def test_texts_are_read_back_as_the_same_tree(self):
        trees = [tree for _, tree in TREES]
        for one in trees:
            for other in trees:
                for word in ("sum", "difference", "product", "quotient"):
                    tree = (word, one, other)
                    self.assertEqual(parse(expression_text(tree)), tree)
            for tree in (("negative", one), ("power", one, 3), ("call", "f", (one, one))):
                self.assertEqual(parse(expression_text(tree)), tree)

    def test_brackets_only_where_they_are_needed(self):
        for text, tree in TREES:
            for place, mark in enumerate(text):
                if mark == "(" and (place == 0 or not text[place - 1].isalpha()):
                    depth, end = 0, place
                    while depth > 0 or end == place:
                        depth += {"(": 1, ")": -1}.get(text[end], 0)
                        end += 1
                    without = text[:place] + text[place + 1:end - 1] + text[end:]
                    try:
                        self.assertNotEqual(parse(without), tree, text)
                    except TextError:
                        pass

    def test_blanks_do_not_count(self):
        self.assertEqual(parse("  x+y *z "), parse("x + y*z"))
        self.assertEqual(parse("f ( x , y ) ^ - 2"), parse("f(x, y)^-2"))
        self.assertEqual(parse("- ( x )"), ("negative", X))
        self.assertEqual(parse("((x))"), X)
        self.assertEqual(parse("007"), ("number", (7, 1)))
        for text in ("1 2", "x y", "a b + 1", "x^1 2"):
            with self.assertRaises(TextError):
                parse(text)

    def test_what_is_no_expression(self):
        for text in (
            "", " ", "x +", "* x", "x * * y", "x^", "x^y", "x^(2)", "x^1.5", "x^--2", "x^^2", "x^2^3", "+x", "()", "(x",
            "x)", "f(", "f()", "f(x", "f(x,)", "f(,x)", "x,y", "2x", "x2", "X", "1.5", "x = y", "x;", "#", "x_y", "[x]",
            "x!", "3(x)", "(x)(y)", "x - ", "-", "1" * 31,
        ):
            with self.assertRaises(TextError, msg=text):
                parse(text)

    def test_exponents(self):
        self.assertEqual(parse("x^60"), ("power", X, 60))
        self.assertEqual(parse("x^-60"), ("power", X, -60))
        self.assertEqual(parse("x^05"), ("power", X, 5))
        for text in ("x^61", "x^99", "x^-61", "x^100", "x^005"):
            with self.assertRaises(TextError):
                parse(text)

    def test_40_open_parts(self):
        for before, behind in (("(", ")"), ("-", ""), ("f(", ")"), ("-(", ")"), ("f(x, -", ")")):
            step = 2 if "-" in before and "(" in before else 1
            many = 39 // step
            if step == 2:
                text = "(" + before * many + "x" + behind * many + ")"
            else:
                text = before * many + "x" + behind * many
            parse(text)
            parse(text + " + " + text)
            for more in ("(" + text + ")", "-" + text, "f(" + text + ")", "y*(" + text + ")"):
                with self.assertRaises(TextError):
                    parse(more)

    def test_150_signs(self):
        for sign in "+-*/":
            self.assertEqual(tree_size(parse(sign.join("x" * 151))), 301)
            with self.assertRaises(TextError):
                parse(sign.join("x" * 152))
        mixed = "(" + "+".join("x" * 76) + ")*(" + "-".join("x" * 75) + ")"
        self.assertEqual(tree_size(parse(mixed)), 301)
        for text in (mixed + "/y", "f(" + mixed + ", x + y)"):
            with self.assertRaises(TextError):
                parse(text)
        # Other signs do not join parts.
        self.assertEqual(tree_size(parse("*".join(["-x^2"] * 151))), 150 + 3 * 151)

    def test_readers(self):
        reader = ExpressionReader("  x +")
        self.assertEqual((reader.here(), reader.here()), ("x", "x"))
        self.assertEqual(ExpressionReader("").here(), "")
        self.assertEqual(ExpressionReader("   ").here(), "")
        for _ in range(150):
            reader.count()
        with self.assertRaises(TextError):
            reader.count()


class TreeTest(unittest.TestCase):
    def test_strengths(self):
        for text, least in (
            ("x + y", 1), ("x - y", 1), ("x*y", 2), ("x/y", 2), ("-x", 3), ("x^2", 4), ("x", 5), ("7", 5), ("f(x)", 5),
        ):
            self.assertEqual(strength(parse(text)), least)
            for needed in range(7):
                shown = "(" + text + ")" if needed > least else text
                self.assertEqual(part_text(parse(text), needed), shown)

    def test_fractions_in_trees(self):
        half, below = ("number", (1, 2)), ("number", (-3, 1))
        for tree, text in (
            (half, "1/2"),
            (below, "-3"),
            (("power", half, 2), "(1/2)^2"),
            (("power", below, 2), "(-3)^2"),
            (("quotient", X, half), "x/(1/2)"),
            (("product", half, X), "1/2*x"),
            (("sum", X, half), "x + 1/2"),
        ):
            self.assertEqual(expression_text(tree), text)
            if tree[0] != "number":
                self.assertEqual(as_quotient(parse(text), "x").shown(), as_quotient(tree, "x").shown())
        with self.assertRaises(NumberError):
            expression_text(("sum", X, ("number", (10 ** 2000, 1))))

    def test_names(self):
        self.assertEqual(names_in(parse("z + b*a - f(c, a)^2")), ("a", "b", "c", "z"))
        self.assertEqual(names_in(parse("1 + 2")), ())
        self.assertEqual(names_in(parse("f(1)")), ())
        self.assertEqual(names_in(parse("-ab/b")), ("ab", "b"))

    def test_put_for(self):
        self.assertEqual(put_for(parse("x + y*x"), "x", parse("a - b")), parse("a - b + y*(a - b)"))
        self.assertEqual(put_for(parse("f(x, -x^2)/x"), "x", parse("x + 1")), parse("f(x + 1, -(x + 1)^2)/(x + 1)"))
        self.assertEqual(put_for(parse("x(x)"), "x", parse("y")), parse("x(y)"))
        self.assertEqual(put_for(parse("1 + y"), "x", parse("z")), parse("1 + y"))

    def test_sizes(self):
        for text, many in (
            ("x", 1), ("12", 1), ("-x", 2), ("x^2", 2), ("x + y", 3), ("f(x, y, 1)", 4), ("-(x + 1)^2/y", 7),
        ):
            self.assertEqual(tree_size(parse(text)), many)


class WorthTest(unittest.TestCase):
    def at(self, text, point):
        return Fraction(*as_quotient(parse(text), "x").at((point.numerator, point.denominator)))

    def test_quotients(self):
        for text, reckon in (
            ("x", lambda x: x),
            ("7", lambda x: 7),
            ("x - 3*x^2 + 1/2", lambda x: x - 3 * x * x + Fraction(1, 2)),
            ("(x + 1)/(x - 5)", lambda x: (x + 1) / (x - 5)),
            ("-x^3*x^-5", lambda x: -x ** 3 / x ** 5),
            ("1/(1/x + 1/(x + 1))", lambda x: 1 / (1 / x + 1 / (x + 1))),
            ("(x/(x + 2))^-3 - x", lambda x: (x / (x + 2)) ** -3 - x),
            ("x - (x - (x - 1))", lambda x: x - 1),
        ):
            for point in (Fraction(1, 3), Fraction(-7, 2), Fraction(9)):
                self.assertEqual(self.at(text, point), reckon(point))
        self.assertIsInstance(as_quotient(X, "x"), Quotient)
        self.assertEqual(as_quotient(parse("(x^2 - 1)/(2*x - 2)"), "x").shown(), (((1, 2), (1, 2)), ((1, 1),)))
        self.assertEqual(as_quotient(parse("a + 1"), "a").shown(), (((1, 1), (1, 1)), ((1, 1),)))
        self.assertEqual(as_quotient(parse("0^0"), "x").shown(), (((1, 1),), ((1, 1),)))

    def test_other_names_and_calls(self):
        for text in ("y", "x + y", "x*a - a*x", "sin(x)", "x + f(1)"):
            with self.assertRaises(TextError):
                as_quotient(parse(text), "x")
            with self.assertRaises(TextError):
                as_poly(parse(text), "x")

    def test_divisions_by_0(self):
        for text in ("1/0", "x/(x - x)", "0^-1", "(x - x)^-2", "1/(1/x - 1/x)"):
            with self.assertRaises(NumberError):
                as_quotient(parse(text), "x")

    def test_2000_digits(self):
        for text in ("10^60", "(10^60)^33", "(10^29*x + 1)^60", "(1/10^60)^33", "((10^60)^33)^1", "(10^60)^-33"):
            as_quotient(parse(text), "x")
        self.assertEqual(as_quotient(parse("(10^40)^49*10^39"), "x").shown()[0], ((10 ** 1999, 1),))
        for text in (
            "(10^60)^34", "(10^50)^40", "((2^60)^60)^60", "(10^60)^-34", "(1/10^60)^34", "(x/10^60)^34",
            "(10^60*x + 1)^34", "(1 + 10^60*x + x^2)^50",
        ):
            with self.assertRaises(NumberError):
                as_quotient(parse(text), "x")
        # Products may be longer, as long as no text and no power is made of them.
        long = "*".join(["10^60"] * 40)
        self.assertEqual(as_quotient(parse(long), "x").shown()[0], ((10 ** 2400, 1),))
        with self.assertRaises(NumberError):
            poly_text(as_poly(parse(long), "x"), "x")
        with self.assertRaises(NumberError):
            as_quotient(parse("(" + long + ")^1"), "x")
        with self.assertRaises(NumberError):
            as_terms(parse("(10^60*x + y)^34"), ("x", "y"))

    def test_200_coefficients(self):
        high = "x^60*x^60*x^60"
        for text in (
            high + "*x^19", "1/(" + high + "*x^19)", "((x^10 + x)^9)^2*x^19", "(x^33 + 1)^6*x",
            high + "*x^19 + x",
            "x/(x^50 + 1)^3", "(x^60*x^39 + 1)*(x^60*x^40 + 1)", "1/(x^60 + 1) + 1/(x^60 + 2) + 1/(x^60*x^19 + 1)",
            "(x^3)^60", "(x^3)^-60", "(" + high + "*x^19)^1", "1/(x^60*x^39 + 1)/(x^60*x^40 + 1)",
            "x^60*x^60*x^29 + 1/(x^50 + 1)", "1/(x^50 + 1) - x^60*x^60*x^29",
        ):
            as_quotient(parse(text), "x")
        for text in (
            high + "*x^20", "1/(" + high + "*x^20)", "(x^33 + 1)^7", "(x^60*x^40 + 1)*(x^60*x^40 + 1)", "(x^4)^50",
            "(x^4)^-50",
            "1/(x^60 + 1) + 1/(x^60 + 2) + 1/(x^60*x^20 + 1)", "(" + high + ")/x^3*(x^60)",
            "(" + high + "*x^20)^1", "1/(x^60*x^40 + 1)/(x^60*x^40 + 2)", "1/(x^60*x^40 + 1)*(1/(x^60*x^40 + 2))",
            "x^60*x^60*x^30 + 1/(x^50 + 1)", "1/(x^50 + 1) - x^60*x^60*x^30",
            # They are counted before they are made lowest, and by lengths alone.
            "x^60*x^60*x^60*x^20/x^60", "x^60*x^60*x^60/(x^60*x^60) - (x^60 + 1)^3*x^60",
            "1/(x^60*x^60) - 1/(x^60*x^60)",
        ):
            with self.assertRaises(TextError, msg=text):
                as_quotient(parse(text), "x")
        need_small(200)
        need_small(0)
        with self.assertRaises(TextError):
            need_small(201)

    def test_polynomials(self):
        field = Field()
        self.assertEqual(as_poly(parse("(x + 1)^2 - x"), "x"), poly(field, (1, 1, 1)))
        self.assertEqual(as_poly(parse("(x^2 - 1)/(x + 1)"), "x"), poly(field, (-1, 1)))
        self.assertEqual(as_poly(parse("x/2"), "x"), ((0, 1), (1, 2)))
        self.assertEqual(as_poly(parse("x - x"), "x"), ())
        for text in ("1/x", "x^-1", "x/(x + 1)"):
            with self.assertRaises(TextError):
                as_poly(parse(text), "x")

    def test_polynomials_in_names(self):
        for text, told in (
            ("x*y - y*x + 1", "1"),
            ("(x + y)^2 - z/2", "x^2 + 2*x*y + y^2 - 1/2*z"),
            ("-x - -y", "-x + y"),
            ("x/(1 + 1) - 3", "1/2*x - 3"),
            ("0", "0"),
            ("(x - x)^3", "0"),
            ("z^0", "1"),
        ):
            found = as_terms(parse(text), ("x", "y", "z"))
            self.assertEqual(found.many, 3)
            self.assertEqual(terms_text(found, ("x", "y", "z")), told)
        self.assertEqual(as_terms(parse("b"), ("a", "b")).shown(), (((0, 1), (1, 1)),))

    def test_what_is_no_polynomial_in_names(self):
        for text in ("w", "f(x)", "x^-1", "2^-1", "1/x", "x/y", "x/(x - x)", "1/0", "x/(1 + y)"):
            with self.assertRaises(TextError, msg=text):
                as_terms(parse(text), ("x", "y", "z"))

    def test_degree_40_with_several_names(self):
        names = ("x", "y")
        for text in ("x^40", "(x*y)^20", "x^20*y^20", "(x + y)^10*x^30", "(x^4)^10", "3^60", "(x - x)^60"):
            self.assertLessEqual(as_terms(parse(text), names).degree(), 40)
        for text in ("x^41", "(x*y)^21", "x^20*y^21", "(x^4)^11", "x^40*y - x^40*y", "((x + y)^20)^3"):
            with self.assertRaises(TextError):
                as_terms(parse(text), names)


class TextTest(unittest.TestCase):
    def test_polynomials(self):
        for numbers, text in (
            ((), "0"),
            ((1,), "1"),
            ((-5,), "-5"),
            ((0, 1), "x"),
            ((0, -1), "-x"),
            ((1, -2, 1), "x^2 - 2*x + 1"),
            ((-1, 0, 0, 4), "4*x^3 - 1"),
            ((3, 1, -2), "-(2*x^2) + x + 3"),
            ((0, 0, -1), "-x^2"),
        ):
            one = poly(Field(), numbers)
            self.assertEqual(poly_text(one, "x"), text)
            self.assertEqual(expression_text(poly_tree(one, "x")), text)
            self.assertEqual(as_poly(parse(text), "x"), one)
        one = ((0, 1), (1, 3), (-2, 1))
        self.assertEqual(poly_text(one, "x"), "-(2*x^2) + 1/3*x")
        self.assertEqual(poly_text(one, "ab"), "-(2*ab^2) + 1/3*ab")
        self.assertEqual(poly_text(((-1, 2), (1, 1)), "x"), "x - 1/2")
        self.assertEqual(poly_text(((1, 2), (-2, 3)), "x"), "-(2/3*x) + 1/2")

    def test_trees_of_polynomials(self):
        self.assertEqual(poly_tree((), "x"), ("number", (0, 1)))
        self.assertEqual(poly_tree(poly(Field(), (1, 2)), "x"), ("sum", ("product", TWO, X), ONE))
        self.assertEqual(poly_tree(poly(Field(), (0, 0, 1)), "x"), ("power", X, 2))
        self.assertEqual(poly_tree(poly(Field(), (0, -2)), "x"), ("negative", ("product", TWO, X)))

    def test_quotients(self):
        for text, told in (
            ("x/(x - 1)", "x/(x - 1)"),
            ("(x + 1)/x", "(x + 1)/x"),
            ("1/(x*x)", "1/x^2"),
            ("(2*x - 2)/(4*x)", "(1/2*x - 1/2)/x"),
            ("-2*x/(x + 1)", "-(2*x)/(x + 1)"),
            ("x - x", "0"),
            ("x/3", "1/3*x"),
            ("(x^2 - 1)/(x - 1)", "x + 1"),
            ("1/(2*x)", "1/2/x"),
        ):
            one = as_quotient(parse(text), "x")
            self.assertEqual(quotient_text(one, "x"), told)
            self.assertEqual(as_quotient(parse(told), "x").shown(), one.shown())


if __name__ == "__main__":
    unittest.main()
