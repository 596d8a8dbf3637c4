import unittest
from fractions import Fraction
from itertools import product

from algebrastack.errors import IdealError, MatrixError, PolyError, SolveError
from algebrastack.expressions import as_poly, as_terms, parse
from algebrastack.matrices import rank
from algebrastack.roots import Root
from algebrastack.solving import (
    common_points,
    is_zero_at,
    linear_parts,
    moved_equations,
    moved_term,
    quadratic_text,
    solve_linear,
    solve_one,
    solve_points,
    square_text,
    squares_out,
)
from algebrastack.terms import Terms, terms_text


def terms(names, *texts):
    return [as_terms(parse(text), tuple(names)) for text in texts]


def whole(*rows):
    return tuple([tuple([(number, 1) for number in row]) for row in rows])


class LinearTest(unittest.TestCase):
    def test_parts(self):
        self.assertEqual(linear_parts(terms("xyz", "2*x - z/3 + 5")[0]), (((2, 1), (0, 1), (-1, 3)), (5, 1)))
        self.assertEqual(linear_parts(terms("xy", "7")[0]), (((0, 1), (0, 1)), (7, 1)))
        self.assertEqual(linear_parts(Terms(2)), (((0, 1), (0, 1)), (0, 1)))
        for text in ("x^2", "x*y", "x + y^3"):
            with self.assertRaises(SolveError):
                linear_parts(terms("xy", text)[0])

    def check(self, names, *texts):
        equations = terms(names, *texts)
        point, directions = solve_linear(equations)
        for factors in product((-1, 0, 2), repeat=len(directions)):
            at = [Fraction(*number) for number in point]
            for factor, direction in zip(factors, directions):
                at = [number + factor * Fraction(*step) for number, step in zip(at, direction)]
            for one in equations:
                self.assertEqual(one.value_at([(number.numerator, number.denominator) for number in at]), (0, 1))
        told = rank([linear_parts(one)[0] for one in equations])
        self.assertEqual(len(directions), len(names) - told)
        return point, directions

    def test_a_point_and_directions(self):
        self.assertEqual(self.check("xy", "x + y - 3", "x - y - 1"), (((2, 1), (1, 1)), ()))
        self.assertEqual(self.check("xy", "2*x + 4*y - 6"), (((3, 1), (0, 1)), (((-2, 1), (1, 1)),)))
        self.check("xyz", "x + y + z - 1", "x - y", "3*x - y + z - 1")
        self.check("xyzt", "x + 2*t - 1/2")
        self.assertEqual(self.check("xy", "0")[1], whole((1, 0), (0, 1)))

    def test_no_point(self):
        self.assertIsNone(solve_linear(terms("xy", "x + y", "x + y - 1")))
        self.assertIsNone(solve_linear(terms("xy", "5")))

    def test_errors(self):
        for equations in ([], (), terms("xy", "x + y", "x*y"), terms("x", "x^2 - 1")):
            with self.assertRaises(SolveError):
                solve_linear(equations)
        with self.assertRaises(MatrixError):
            solve_linear(terms("xy", "x") + terms("xyz", "y"))


class PointTest(unittest.TestCase):
    def test_systems(self):
        for names, texts, points in (
            ("xy", ("x^2 + y^2 - 5", "x*y - 2"), whole((-2, -1), (-1, -2), (1, 2), (2, 1))),
            ("xy", ("x^2 - 1/4", "y^2 - x - 1/2"), (((-1, 2), (0, 1)), ((1, 2), (-1, 1)), ((1, 2), (1, 1)))),
            ("x", ("x^2 - 2",), ()),
            ("x", ("6*x^3 - 5*x^2 + x",), (((0, 1),), ((1, 3),), ((1, 2),))),
            ("xy", ("x^2 + 1", "y"), ()),
            ("xy", ("x", "x + 1"), ()),
            ("xyz", ("x^2 + y + z - 1", "x + y^2 + z - 1", "x + y + z^2 - 1"), whole((0, 0, 1), (0, 1, 0), (1, 0, 0))),
            ("xyz", ("x^2 + y^2 + z^2 - 14", "x*y + z - 5", "x + y*z - 7"), whole((1, 2, 3), (1, 3, 2))),
            ("xy", ("(x - 1)^2", "(y - x)^3"), whole((1, 1))),
            ("xy", ("x^2 - 2", "y^2 - 2", "x*y - 2"), ()),
            ("xy", ("x^2 - y^2", "x^2 + y^2 - 2"), whole((-1, -1), (-1, 1), (1, -1), (1, 1))),
            ("xyzt", ("x + y - 3", "y + z - 5", "z + t - 7", "x*t - 4"), whole((1, 2, 3, 4), (4, -1, 6, 1))),
        ):
            equations = terms(names, *texts)
            found = solve_points(equations)
            self.assertIsInstance(found, tuple)
            for point in found:
                for one in equations:
                    self.assertEqual(one.value_at(point), (0, 1))
            self.assertEqual(found, points, texts)

    def test_points_ascend_by_their_numbers(self):
        found = solve_points(terms("xy", "(x - 1/2)*(x - 1/3)*(x + 3/4)", "(y - 2)*(y - 10)*(y - 1/5)"))
        told = [tuple([Fraction(*number) for number in point]) for point in found]
        found = solve_points(terms("x", "(x - 2/13)*(x - 1/7)*(x - 1/11)"))
        self.assertEqual(found, (((1, 11),), ((1, 7),), ((2, 13),)))
        numbers = (Fraction(-3, 4), Fraction(1, 3), Fraction(1, 2))
        self.assertEqual(told, sorted(product(numbers, (Fraction(1, 5), 2, 10))))

    def test_infinitely_many(self):
        # The second has no point of fractions, and the third no real one: all numbers count.
        for texts in (("x*y - 1",), ("x^2 + y^2 - 3",), ("x^2 + y^2 + 1",), ("x*y", "x*(y + 1)"), ("0",)):
            with self.assertRaises(SolveError):
                solve_points(terms("xy", *texts))
        for equations in ([], terms("xy", "x") + terms("x", "x")):
            with self.assertRaises(IdealError):
                solve_points(equations)

    def test_one_name(self):
        def solved(text):
            return solve_one(as_poly(parse(text), "x"))

        exact, others = solved("(x - 1/2)*(x^2 - 2)*(x + 3)^2*(x^2 + 1)")
        self.assertEqual(exact, ((-3, 1), (1, 2)))
        self.assertEqual(len(others), 2)
        self.assertTrue(all(isinstance(root, Root) and not root.is_exact() for root in others))
        self.assertLess(Fraction(*others[0].high), Fraction(*others[1].high))
        self.assertEqual(solved("x^2 + 1"), ((), ()))
        self.assertEqual(solved("5"), ((), ()))
        self.assertEqual(solved("1/3 - 1/2 + x"), (((1, 6),), ()))
        self.assertEqual(solved("(x - 1/2)*(x - 1/3)*(x - 3/8)")[0], ((1, 3), (3, 8), (1, 2)))
        with self.assertRaises(SolveError):
            solve_one(())

    def test_whole_points(self):
        circle, line = terms("xy", "x^2 + y^2 - 25", "x + y - 7")
        self.assertEqual(common_points([circle, line], -10, 10), ((3, 4), (4, 3)))
        self.assertEqual(len(common_points([circle], -5, 5)), 12)
        self.assertEqual(common_points([circle], 0, 4), ((3, 4), (4, 3)))
        self.assertEqual(common_points([circle, line], 4, 4), ())
        self.assertEqual(common_points([circle, line], 5, 4), ())
        self.assertEqual(common_points(terms("x", "(x + 2)*(x - 3)"), -2, 3), ((-2,), (3,)))
        self.assertEqual(common_points([Terms(2)], 0, 1), ((0, 0), (0, 1), (1, 0), (1, 1)))
        for low, high in ((-3, 3), (-6, 1)):
            found = common_points([circle], low, high)
            numbers = range(low, high + 1)
            self.assertEqual(found, tuple([at for at in product(numbers, numbers) if at[0] ** 2 + at[1] ** 2 == 25]))

    def test_is_zero_at(self):
        one = terms("xy", "x^2 - y/2")[0]
        self.assertTrue(is_zero_at(one, (3, 18)))
        self.assertFalse(is_zero_at(one, (3, 17)))
        self.assertTrue(is_zero_at(Terms(1), (5,)))
        for point in ((3,), (3, 18, 0), ()):
            with self.assertRaises(PolyError):
                is_zero_at(one, point)

    def test_moved(self):
        equations = terms("xy", "x^2 + y^2 - 5", "x*y - 2", "7")
        for point in (((1, 1), (2, 1)), ((-1, 2), (3, 5)), ((0, 1), (0, 1))):
            found = moved_equations(equations, point)
            self.assertIsInstance(found, tuple)
            for one, moved in zip(equations, found, strict=True):
                for at in (((0, 1), (0, 1)), ((3, 7), (-2, 1))):
                    there = tuple([Fraction(*a) + Fraction(*b) for a, b in zip(at, point)])
                    value = one.value_at([(number.numerator, number.denominator) for number in there])
                    self.assertEqual(moved.value_at(at), value)
        found = moved_equations(equations, ((1, 1), (2, 1)))
        self.assertEqual([terms_text(one, "xy") for one in found], ["x^2 + y^2 + 2*x + 4*y", "x*y + 2*x + y", "7"])
        self.assertEqual(moved_equations([], ((1, 1),)), ())

    def test_a_moved_term(self):
        found = moved_term((2, 1), (3, 1), ((1, 1), (-1, 1)))
        self.assertEqual(terms_text(found, "xy"), "3*x^2*y - 3*x^2 + 6*x*y - 6*x + 3*y - 3")
        self.assertEqual(moved_term((0, 0), (1, 2), ((1, 1), (5, 1))).shown(), (((0, 0), (1, 2)),))
        with self.assertRaises(PolyError):
            moved_term((2, 1), (3, 1), ((1, 1),))


class QuadraticTest(unittest.TestCase):
    def test_texts(self):
        for text, told in (
            ("x^2 - 4*x + 4", "2"),
            ("x^2", "0"),
            ("4*x^2 + 4*x + 1", "-1/2"),
            ("x^2 - 5*x + 6", "2 and 3"),
            ("-x^2 + x", "0 and 1"),
            ("6*x^2 - 5*x + 1", "1/3 and 1/2"),
            ("x^2 - 9", "-3 and 3"),
            ("x^2 - 2", "-sqrt(2) and sqrt(2)"),
            ("x^2 - 12", "-2*sqrt(3) and 2*sqrt(3)"),
            ("x^2 - 1/2", "-1/2*sqrt(2) and 1/2*sqrt(2)"),
            ("x^2 - 2*x - 1", "1 - sqrt(2) and 1 + sqrt(2)"),
            ("x^2 + 2*x - 7", "-1 - 2*sqrt(2) and -1 + 2*sqrt(2)"),
            ("x^2 - x - 1", "1/2 - 1/2*sqrt(5) and 1/2 + 1/2*sqrt(5)"),
            ("-3*x^2 - 6*x - 1", "-1 - 1/3*sqrt(6) and -1 + 1/3*sqrt(6)"),
            ("x^2 + 1", "none"),
            ("5*x^2 + x + 1", "none"),
            ("x^2 - 1018081", "-1009 and 1009"),
            ("x^2 - 1018081/4", "-1009/2 and 1009/2"),
        ):
            self.assertEqual(quadratic_text(as_poly(parse(text), "x")), told)

    def test_other_degrees(self):
        for text in ("0", "5", "x", "x^3 - 1"):
            with self.assertRaises(SolveError):
                quadratic_text(as_poly(parse(text), "x"))

    def test_square_texts(self):
        self.assertEqual(square_text((1, 2), (0, 1)), "1/2")
        self.assertEqual(square_text((1, 2), (1, 4)), "0 and 1")
        self.assertEqual(square_text((0, 1), (3, 1)), "-sqrt(3) and sqrt(3)")
        self.assertEqual(square_text((2, 1), (8, 9)), "2 - 2/3*sqrt(2) and 2 + 2/3*sqrt(2)")

    def test_squares_out(self):
        for number, told in (
            (0, (0, 1)), (1, (1, 1)), (2, (1, 2)), (4, (2, 1)), (12, (2, 3)), (72, (6, 2)), (1000 ** 2 * 7, (1000, 7)),
            (997 ** 3, (997, 997)), (1009 ** 2, (1009, 1)), (4 * 1009 ** 4, (2 * 1009 ** 2, 1)),
            (2 * 1009 ** 2, (1, 2 * 1009 ** 2)),
        ):
            self.assertEqual(squares_out(number), told)
        for number in range(1, 300):
            whole_part, free = squares_out(number)
            self.assertEqual(whole_part * whole_part * free, number)
            self.assertFalse(any(free % (step * step) == 0 for step in range(2, 18)))


if __name__ == "__main__":
    unittest.main()
