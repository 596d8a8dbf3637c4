import unittest

from algebrastack.expressions import parse
from algebrastack.session import Session


class LineTest(unittest.TestCase):
    def assert_answers(self, *rows):
        """Each row is a line and its answer, asked of a new session."""
        for line, answer in rows:
            self.assertEqual(Session().enter(line), answer, line)

    def assert_errors(self, *lines):
        for line in lines:
            session = Session()
            self.assertEqual(session.enter(line), "error", line)
            self.assertEqual(session.known, {})


class LetTest(LineTest):
    def test_let(self):
        session = Session()
        self.assertEqual(session.known, {})
        self.assertEqual(session.enter("let f = x^2 - 1"), "let f")
        self.assertEqual(session.known, {"f": parse("x^2 - 1")})
        self.assertEqual(session.enter("let  long =f+ 1"), "let long")
        self.assertEqual(session.enter("simplify long"), "x^2")
        self.assertEqual(session.enter("let f=3"), "let f")
        self.assertEqual(list(session.known), ["f", "long"])
        self.assertEqual(session.enter("simplify f*y"), "3*y")

    def test_names_stand_for_what_was_told_at_that_time(self):
        session = Session()
        session.enter("let a = x + 1")
        session.enter("let b = a^2")
        session.enter("let a = 5")
        self.assertEqual(session.enter("simplify b"), "x^2 + 2*x + 1")
        self.assertEqual(session.enter("simplify a"), "5")

    def test_names_that_stood_for_nothing_are_put_in_when_something_is_asked(self):
        session = Session()
        session.enter("let f = y + 1")
        self.assertEqual(session.enter("simplify f"), "y + 1")
        session.enter("let y = z^2")
        self.assertEqual(session.enter("simplify f"), "z^2 + 1")
        session.enter("let z = 3")
        self.assertEqual(session.enter("simplify f"), "10")
        session.enter("let z = 4")
        self.assertEqual(session.enter("simplify f"), "17")
        session.enter("let y = 1/x")
        self.assertEqual(session.enter("simplify f"), "(x + 1)/x")

    def test_own_names(self):
        session = Session()
        self.assertEqual(session.enter("let f = f + 1"), "error")
        self.assertEqual(session.known, {})
        session.enter("let f = g + 1")
        self.assertEqual(session.enter("let g = 2*f"), "error")
        self.assertEqual(session.enter("let g = h"), "let g")
        self.assertEqual(session.enter("let h = f"), "error")
        self.assertEqual(list(session.known), ["f", "g"])
        # What the name stands for is put in, so that it stands in its own expression no more.
        session = Session()
        session.enter("let f = x")
        self.assertEqual(session.enter("let f = f + 1"), "let f")
        self.assertEqual(session.enter("simplify f"), "x + 1")

    def test_x_may_be_told(self):
        session = Session()
        session.enter("let x = 1/2")
        self.assertEqual(session.enter("simplify x^2"), "1/4")
        self.assertEqual(session.enter("det x, 1; 1, x"), "-3/4")

    def test_errors(self):
        self.assert_errors(
            "let", "let ", "let f", "let f =", "let = 3", "let f 3", "let F = 3", "let f1 = 3", "let f g = 3",
            "let 3 = f", "let f(x) = x", "let f = 3 = 4", "let f = 3 +", "let f = )", "let f == 3", "letf = 3",
        )

    def test_an_error_changes_nothing(self):
        session = Session()
        session.enter("let f = x")
        before = dict(session.known)
        for line in ("let f = ", "let f = 1 2", "let g = g", "let g = 1/", "simplify 1/0", "what f", ""):
            self.assertEqual(session.enter(line), "error")
            self.assertEqual(session.known, before)

    def test_300_parts(self):
        session = Session()
        self.assertEqual(session.enter("let a = x" + " + x" * 74), "let a")
        self.assertEqual(session.enter("let b = a + a"), "let b")
        self.assertEqual(session.enter("simplify b"), "150*x")
        # 149 parts and 149 parts, with a sum and a minus sign: 300 in all.
        self.assertEqual(session.enter("simplify -(a + a)"), "-(150*x)")
        self.assertEqual(session.enter("simplify -(-(a + a))"), "error")
        before = dict(session.known)
        for line in ("let c = a + a + a", "let c = --(a + a)", "simplify b + b", "let c = a*a*a*a"):
            self.assertEqual(session.enter(line), "error", line)
        self.assertEqual(session.known, before)
        session.enter("let p = q + q + q")
        for one, other in ("qr", "rs", "st", "tu", "uv", "vw", "wz"):
            session.enter(f"let {one} = {other} + {other} + {other}")
        self.assertEqual(session.enter("simplify t"), "81*z")
        self.assertEqual(session.enter("simplify p"), "error")


class BlankTest(LineTest):
    def test_blanks(self):
        self.assert_answers(
            ("  simplify   x  +  x  ", "2*x"),
            ("simplify x+x", "2*x"),
            ("gcd x^2-1;x-1", "x - 1"),
            ("  gcd   x^2 - 1  ;  x - 1  ", "x - 1"),
            ("det  1,2 ;3 , 4 ", "-2"),
            (" basis   lex   x - y ; y ", "y; x"),
            ("group  4   ( 0  1 2 3 ) ,(0 2)", "8: (0 1 2 3)"),
            ("group 5 (0 1) (2 3)", "2: (0 1) (2 3) (4)"),
            ("  primes   24", "2^3 3^1"),
        )

    def test_what_is_no_line(self):
        self.assert_errors(
            "", " ", "    ", "x", "x + 1", "what x", "Simplify x", "simplifyx", "simplify(x)", "simplify", "simplify ",
            "factor", "solve", "basis", "det", "primes", "group", "error", "known",
        )


class QuotientTest(LineTest):
    def test_simplify(self):
        self.assert_answers(
            ("simplify (x^2 - 1)/(x - 1)", "x + 1"),
            ("simplify 1/x + 1/(x + 1)", "(2*x + 1)/(x^2 + x)"),
            ("simplify 1/2 + 1/3", "5/6"),
            ("simplify (a + 1)^2", "a^2 + 2*a + 1"),
            ("simplify y - y", "0"),
            ("simplify (y - 1)^-1", "1/(y - 1)"),
        )
        self.assert_errors(
            "simplify x + y", "simplify 1/0", "simplify 1/(x - x)", "simplify f(x)", "simplify x +", "simplify x; x",
            "simplify x, x", "simplify (x^60)^60", "simplify x = 1",
        )

    def test_diff(self):
        self.assert_answers(
            ("diff x^3 - x", "3*x^2 - 1"), ("diff 1/t", "-1/t^2"), ("diff 7", "0"), ("diff (x + 1)/(x - 1)", "-2/(x^2 - 2*x + 1)")
        )
        self.assert_errors("diff x*y", "diff 1/0", "diff")

    def test_integrate(self):
        self.assert_answers(
            ("integrate x^2", "1/3*x^3"),
            ("integrate 1/x", "0 and 1/x"),
            ("integrate 1/t^2", "-1/t"),
            ("integrate 1/x^2 + x/(x^2 + 1)", "-1/x and x/(x^2 + 1)"),
            ("integrate 0", "0"),
            ("integrate 5", "5*x"),
        )
        self.assert_errors("integrate x*y", "integrate 1/0")

    def test_apart(self):
        self.assert_answers(
            ("apart x^2", "x^2"),
            ("apart 0", "0"),
            ("apart (x^3 + 1)/x^2", "x + (1)/(x)^2"),
            ("apart x + 1/(x^2 - 1)", "x + (1)/(x^2 - 1)^1"),
            ("apart t^3/(t^2 - 1)^2", "0 + (t)/(t^2 - 1)^1 + (t)/(t^2 - 1)^2"),
            ("apart 1 + 1/(x^2*(x - 1))", "1 + (1)/(x - 1)^1 + (-1)/(x)^1 + (-1)/(x)^2"),
        )
        self.assert_errors("apart 1/0", "apart x/y")

    def test_series(self):
        self.assert_answers(
            ("series 1/(1 - x - x^2); 8", "1, 1, 2, 3, 5, 8, 13, 21"),
            ("series (1 + y)/(2 - y); 3", "1/2, 3/4, 3/8"),
            ("series x^2; 2", "0, 0"),
            ("series 3; 1", "3"),
            ("series 1/(1 - x);30", ", ".join(["1"] * 30)),
        )
        self.assert_errors(
            "series 1/(1 - x); 0", "series 1/(1 - x); 31", "series 1/(1 - x); -1", "series 1/(1 - x)",
            "series 1/(1 - x);", "series 1/(1 - x); x", "series 1/(1 - x); 1/2", "series 1/x; 5", "series x; 3; 4",
            "series x*y; 3",
        )


class PolynomialTest(LineTest):
    def test_factor(self):
        self.assert_answers(
            ("factor x^4 - 4", "(x^2 - 2) * (x^2 + 2)"),
            ("factor 2*x^3 - 2*x", "2 * (x - 1) * (x) * (x + 1)"),
            ("factor x^2/4 - 1", "1/4 * (x - 2) * (x + 2)"),
            ("factor (1 - t)^3*t", "-1 * (t - 1)^3 * (t)"),
            ("factor x^2 + 2*x + 1", "(x + 1)^2"),
            ("factor 1", "1"),
            ("factor -1", "-1"),
            ("factor 6/4", "3/2"),
            ("factor 3*x", "3 * (x)"),
        )
        self.assert_errors("factor 0", "factor x - x", "factor 1/x", "factor x*y", "factor x^25", "factor")

    def test_sum(self):
        self.assert_answers(
            ("sum n", "1/2*n^2 + 1/2*n"), ("sum 1", "x + 1"), ("sum 0", "0"), ("sum n^2", "1/3*n^3 + 1/2*n^2 + 1/6*n")
        )
        self.assert_errors("sum 1/n", "sum n*m", "sum")

    def test_roots(self):
        self.assert_answers(
            ("roots (x - 1)*(2*x + 1)*x", "-1/2, 0, 1"),
            ("roots x^2 + 1", "none"),
            ("roots 3", "none"),
            ("roots t^2 - 2*t + 1", "1"),
        )
        for line, many, exact in (("roots x^2 - 2", 2, ""), ("roots (x^2 - 2)*(x - 5)", 2, "5, "), ("roots x^3 - 2", 1, "")):
            answer = Session().enter(line)
            self.assertTrue(answer.startswith(exact + "in ("), answer)
            self.assertEqual(answer.count("in ("), many)
            for part in answer.split("in (")[1:]:
                bounds = part.rstrip(", ")
                self.assertRegex(bounds, r"^-?\d+(/\d+)?, -?\d+(/\d+)?\)$")
        self.assert_errors("roots 0", "roots x - x", "roots 1/x", "roots x*y")

    def test_two_polynomials(self):
        self.assert_answers(
            ("gcd x^2 - 1; x^2 + 2*x + 1", "x + 1"),
            ("gcd 12; 18", "1"),
            ("gcd 0; 0", "0"),
            ("gcd 0; 2*y", "y"),
            ("resultant x^2 - 1; x - 3", "8"),
            ("resultant 2*x - 1; x", "1"),
            ("resultant x; x^2", "0"),
            ("divide x^3; x^2 - 1", "x rest x"),
            ("divide x^2 - 1; x - 1", "x + 1 rest 0"),
            ("divide 1; 2", "1/2 rest 0"),
            ("divide 0; y", "0 rest 0"),
            ("bezout x^2 - 1; x^2 + 2*x + 1", "x + 1 -(1/2) 1/2"),
            ("bezout x; x + 1", "1 -1 1"),
        )
        for word in ("gcd", "resultant", "divide", "bezout"):
            self.assert_errors(
                f"{word} x", f"{word} x; y", f"{word} x; x; x", f"{word} x;", f"{word} ; x", f"{word} 1/x; x", word,
            )
        self.assert_errors("divide x; 0", "gcd x, x")

    def test_bezout_of_numbers(self):
        self.assert_answers(("bezout 12, 18", "6 -1 1"), ("bezout 0, 5", "5 0 1"), ("bezout 7,7", "7 0 1"))
        for one in (-12, 0, 5, 240):
            for other in (46, -9, 18):
                divisor, a, b = [int(word) for word in Session().enter(f"bezout {one}, {other}").split()]
                self.assertEqual(a * one + b * other, divisor)
        self.assert_errors("bezout 1/2, 3", "bezout x, 3", "bezout 1, 2, 3", "bezout 5", "bezout 5,")


class SystemTest(LineTest):
    def test_basis(self):
        self.assert_answers(
            ("basis x^2 - 1; x - 1", "x - 1"),
            ("basis lex x^2 + y^2 - 5; x*y - 2", "y^4 - 5*y^2 + 4; x + 1/2*y^3 - 5/2*y"),
            ("basis grlex 2*b + a; a", "b; a"),
            ("basis grevlex y; x", "y; x"),
            ("basis x; x + 1", "1"),
            ("basis 3", "1"),
        )
        self.assert_errors("basis", "basis lex", "basis x;", "basis 1/x", "basis x^-1", "basis f(x)", "basis lexx x")

    def test_member(self):
        self.assert_answers(
            ("member x^2 - y^2; x - y", "x + y"),
            ("member lex x^2 - y^2; x - y", "x + y"),
            ("member x; x - y", "no"),
            ("member 0; x", "0"),
            ("member 6; 3", "2"),
            ("member a*c; a; b", "c; 0"),
            ("member grlex x^2; x^3", "no"),
        )
        self.assert_errors("member x^2", "member x;", "member ; x", "member 1/x; x", "member", "member lex")

    def test_solve(self):
        self.assert_answers(
            ("solve x^2 - 1", "x = -1; x = 1"),
            ("solve x + y - 3; x*y - 2", "x = 1, y = 2; x = 2, y = 1"),
            ("solve b - 1/2; a - b", "a = 1/2, b = 1/2"),
            ("solve x^2 - 2", "none"),
            ("solve x; x - 1", "none"),
            ("solve 1", "none"),
        )
        self.assert_errors("solve x - y", "solve 0", "solve x = 1", "solve x;", "solve 1/x", "solve z; ((x + y)^3)^3")

    def test_linear(self):
        self.assert_answers(
            ("linear x + y - 3; x - y - 1", "x = 2, y = 1"),
            ("linear x + y - 3", "x = 3, y = 0 and 1 free"),
            ("linear a + b + c", "a = 0, b = 0, c = 0 and 2 free"),
            ("linear x; x - 1", "none"),
            ("linear 2*z - 1", "z = 1/2"),
            ("linear 0", "x = 0 and 1 free"),
        )
        self.assert_errors("linear x^2", "linear x*y", "linear x;", "linear")


class NumberTest(LineTest):
    def test_matrices(self):
        self.assert_answers(
            ("det 1, 2; 3, 4", "-2"),
            ("det 1/2", "1/2"),
            ("rank 1, 2; 2, 4", "1"),
            ("rank 0, 0", "0"),
            ("rank 1, 2, 3; 4, 5, 6", "2"),
            ("inverse 1, 2; 3, 4", "-2, 1; 3/2, -1/2"),
            ("inverse 4", "1/4"),
            ("charpoly 1, 2; 3, 4", "x^2 - 5*x - 2"),
            ("charpoly 0", "x"),
        )
        self.assert_errors(
            "det 1, 2", "det 1, 2; 3", "det", "det 1, 2; 3, x", "det 1,; 2, 3", "rank 1; 2, 3", "rank", "rank x",
            "inverse 1, 2; 2, 4", "inverse 1, 2", "charpoly 1, 2", "charpoly 1, 2; 3", "charpoly a",
        )

    def test_rules(self):
        self.assert_answers(
            ("rule 1, 1, 2, 3, 5, 8", "1, 1"), ("rule 1, 1/2, 1/4, 1/8", "1/2"), ("rule 1, 2, 3, 4, 5, 6", "2, -1")
        )
        self.assert_errors("rule", "rule 1, x", "rule 1,, 2", "rule 1; 2")

    def test_primes(self):
        self.assert_answers(
            ("primes 24", "2^3 3^1"), ("primes -12", "2^2 3^1"), ("primes 97", "97^1"), ("primes 1000003", "1000003^1")
        )
        self.assert_errors("primes 0", "primes", "primes x", "primes 1/2", "primes 12, 13", "primes 1.5", "primes " + "9" * 31)

    def test_groups(self):
        self.assert_answers(
            ("group 4 (0 1 2 3), (0 2)", "8: (0 1 2 3)"),
            ("group 5 (0 1)(2 3)", "2: (0 1) (2 3) (4)"),
            ("group 3 (0)", "1: (0) (1) (2)"),
            ("group 12 (0 1 2 3 4 5 6 7 8 9 10 11), (0 1)", "479001600: (0 1 2 3 4 5 6 7 8 9 10 11)"),
        )
        self.assert_errors(
            "group", "group 4", "group 4 ", "group 4 ()", "group 4 (0 1),", "group 4 ,(0 1)", "group (0 1)", "group x (0 1)",
            "group 0 (0)", "group 13 (0 1)", "group 3 (0 3)", "group 3 (0 0)", "group 3 (0 1)(1 2)", "group 3 (0 1",
            "group 3 0 1)", "group 3 0 1", "group 3 (0 -1)", "group 3 (a b)", "group 3 (0 (1) 2)", "group -3 (0 1)",
            "group 99999999999 (0 1)", "group 3 (0 1) x",
        )


class WholeSessionTest(LineTest):
    def test_names_in_all_lines(self):
        session = Session()
        session.enter("let f = (x - 1)^2*(x + 2)")
        session.enter("let g = x - 1")
        session.enter("let n = 3")
        for line, answer in (
            ("simplify f/g", "x^2 + x - 2"),
            ("factor f", "(x - 1)^2 * (x + 2)"),
            ("diff f - g", "3*x^2 - 4"),
            ("integrate g", "1/2*x^2 - x"),
            ("roots f", "-2, 1"),
            ("gcd f; g", "x - 1"),
            ("resultant f; g", "0"),
            ("divide f; g", "x^2 + x - 2 rest 0"),
            ("series 1/(1 - x); n", "1, 1, 1"),
            ("member f; g", "x^2 + x - 2"),
            ("solve f", "x = -2; x = 1"),
            ("linear g", "x = 1"),
            ("basis g; f", "x - 1"),
            ("det n, 1; 1, n", "8"),
            ("rule n, 2*n, 4*n, 8*n", "2"),
            ("primes n^2", "3^2"),
            ("bezout n, 5", "1 2 -1"),
        ):
            self.assertEqual(session.enter(line), answer, line)

    def test_answers_with_too_many_digits(self):
        self.assert_answers(("simplify (10^60)^33", "1" + "0" * 1980))
        self.assert_errors("simplify (10^60)^34", "simplify (10^60)^33*10^60", "bezout (10^60)^33*(10^60)^33*(10^60)^33, 0")


if __name__ == "__main__":
    unittest.main()
