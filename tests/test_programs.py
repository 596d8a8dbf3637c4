import unittest
from itertools import combinations, product

from algebrastack.errors import MatrixError
from algebrastack.matrices import solution
from algebrastack.programs import Outcome, Tableau, begun, proves, solve_program, total_of
from algebrastack.rationals import ONE, ZERO, compared, rational, sum_of


def whole(rows):
    """Return conditions of whole numbers as such of fractions."""
    return tuple([(fractions(row), rational(bound)) for row, bound in rows])


def fractions(row):
    return tuple([rational(number) for number in row])


def solved(rows, factors):
    return solve_program(whole(rows), fractions(factors)).shown()


def corners(conditions, many):
    """Return the corners of a program by trying all of the conditions' crossings."""
    sides = list(conditions)
    for place in range(many):
        sides.append((tuple([(-1, 1) if step == place else ZERO for step in range(many)]), ZERO))
    found = set()
    for chosen in combinations(sides, many):
        point = solution([row for row, _ in chosen], [bound for _, bound in chosen])
        if point is not None and all(compared(total_of(row, point), bound) <= 0 for row, bound in sides):
            found.add(point)
    return found


SOME = (
    ([((1, 1), 4), ((1, 3), 6)], (3, 2)),
    ([((2, 1), 10), ((1, 3), 15), ((-1, 1), 2)], (1, 1)),
    ([((-1, -1), -2), ((1, 0), 3), ((0, 1), 3)], (-1, -2)),
    ([((-1, 1), -1), ((1, 1), 5), ((1, -2), 0)], (2, 3)),
    ([((1, 2, 3), 6), ((-1, -1, 0), -1), ((0, -1, -1), -1)], (1, 1, 4)),
    ([((1, -1), 0), ((-1, 1), 0), ((1, 1), 2)], (1, 0)),
    ([((1,), 5)], (1,)),
    ([((1,), 5)], (-1,)),
    ([((1,), 0)], (1,)),
)
NONE = (
    ([((1,), -1)], (1,)),
    ([((1, 1), 1), ((-1, 0), -1), ((0, -1), -1)], (1, 1)),
    ([((1, 2), 3), ((-1, -2), -4)], (0, 0)),
    ([((0, 0), -1)], (1, -1)),
    ([((-1, 0), -5), ((0, -1), -5), ((1, 1), 9), ((1, 0), 100)], (1, 0)),
)
ENDLESS = (
    ([], (0, 1)),
    ([((1, -1), 1)], (1, 0)),
    ([((1, -1), 1), ((-1, 1), 1)], (1, 1)),
    ([((-1, 0), -3), ((-1, -1), -4)], (0, 2)),
    ([((0, 1), 2)], (1, 1)),
)


class ProgramTest(unittest.TestCase):
    def test_greatest_sums(self):
        for rows, factors in SOME:
            conditions, aim = whole(rows), fractions(factors)
            outcome = solve_program(conditions, aim)
            self.assertIsInstance(outcome, Outcome)
            self.assertEqual(outcome.shown(), (outcome.word, outcome.total, outcome.point, outcome.proof))
            self.assertEqual(outcome.word, "greatest")
            found = [total_of(aim, point) for point in corners(conditions, len(aim))]
            self.assertTrue(all(compared(one, outcome.total) <= 0 for one in found))
            self.assertIn(outcome.total, found)
            self.assertIn(outcome.point, corners(conditions, len(aim)))
            self.assertEqual(len(outcome.proof), len(conditions))
            self.assertTrue(proves(conditions, aim, outcome))

    def test_what_outcomes_hold(self):
        self.assertEqual(
            solved([((1, 1), 4), ((1, 3), 6)], (3, 2)), ("greatest", (12, 1), ((4, 1), ZERO), ((3, 1), ZERO))
        )
        self.assertEqual(solved([((2, 3), 1)], (1, 1)), ("greatest", (1, 2), ((1, 2), ZERO), ((1, 2),)))
        self.assertEqual(solved([((1,), 1), ((-1,), -2)], (7,)), ("none", None, None, (ONE, ONE)))
        self.assertEqual(solved([((0, 1), 2)], (1, 1)), ("endless", None, (ZERO, ZERO), (ONE, ZERO)))
        self.assertEqual(solved([((-1, 0), -3)], (1, 0)), ("endless", None, ((3, 1), ZERO), (ONE, ZERO)))
        self.assertEqual(solved([((1, -2), 1)], (1, 0)), ("endless", None, (ONE, ZERO), ((2, 1), ONE)))

    def test_fractions(self):
        conditions = ((((1, 2), (1, 3)), (5, 6)), (((1, 7), (-2, 3)), (1, 9)))
        outcome = solve_program(conditions, ((1, 1), (1, 5)))
        self.assertEqual(outcome.shown(), ("greatest", (143, 90), ((14, 9), (1, 6)), ((73, 40), (49, 80))))
        self.assertTrue(proves(conditions, ((1, 1), (1, 5)), outcome))

    def test_none(self):
        for rows, factors in NONE:
            conditions, aim = whole(rows), fractions(factors)
            outcome = solve_program(conditions, aim)
            self.assertEqual((outcome.word, outcome.total, outcome.point), ("none", None, None))
            self.assertEqual(len(outcome.proof), len(conditions))
            self.assertTrue(all(number[0] >= 0 for number in outcome.proof))
            self.assertTrue(proves(conditions, aim, outcome))

    def test_endless(self):
        for rows, factors in ENDLESS:
            conditions, aim = whole(rows), fractions(factors)
            outcome = solve_program(conditions, aim)
            self.assertEqual((outcome.word, outcome.total), ("endless", None))
            self.assertEqual((len(outcome.point), len(outcome.proof)), (len(aim), len(aim)))
            self.assertTrue(all(number[0] >= 0 for number in outcome.proof))
            self.assertTrue(proves(conditions, aim, outcome))

    def test_no_conditions(self):
        self.assertEqual(solved([], (-1, 0)), ("greatest", ZERO, (ZERO, ZERO), ()))
        self.assertEqual(solved([], (-1, 0, 5, 1)), ("endless", None, (ZERO,) * 4, (ZERO, ZERO, ONE, ZERO)))

    def test_all_small_programs(self):
        numbers = (-1, 0, 1)
        for row in product(product(numbers, repeat=2), (-1, 0, 2)):
            for other in product(product(numbers, repeat=2), (-1, 0, 2)):
                for factors in product(numbers, repeat=2):
                    conditions, aim = whole((row, other)), fractions(factors)
                    outcome = solve_program(conditions, aim)
                    self.assertTrue(proves(conditions, aim, outcome), (row, other, factors))
                    self.assertEqual(outcome.word == "none", not corners(conditions, 2))

    def test_the_first_unknown_that_helps_comes_in(self):
        self.assertEqual(solved([((1, 1), 1)], (1, 1)), ("greatest", ONE, (ONE, ZERO), (ONE,)))
        self.assertEqual(solved([((1, 1, 1), 1)], (0, 1, 1)), ("greatest", ONE, (ZERO, ONE, ZERO), (ONE,)))
        self.assertEqual(solved([((1, 0, 0), 1)], (1, 2, 3))[2:], ((ONE, ZERO, ZERO), (ZERO, ONE, ZERO)))
        # The one that brings most would come to the sum 3 at another corner.
        self.assertEqual(solved([((1, 3), 3), ((1, 0), 3)], (1, 3))[2], ((3, 1), ZERO))

    def test_of_rows_that_bind_equally_that_of_the_least_unknown_goes(self):
        self.assertEqual(solved([((1,), 1), ((1,), 1)], (1,)), ("greatest", ONE, (ONE,), (ONE, ZERO)))
        self.assertEqual(solved([((2,), 2), ((1,), 1)], (1,)), ("greatest", ONE, (ONE,), ((1, 2), ZERO)))
        self.assertEqual(solved([((1,), 2), ((2,), 2), ((1,), 1)], (1,))[3], (ZERO, (1, 2), ZERO))

    def test_bounds_of_0(self):
        # Without a rule for ties these conditions can lead round and round.
        rows = (
            (((1, 4), (-60, 1), (-1, 25), (9, 1)), ZERO),
            (((1, 2), (-90, 1), (-1, 50), (3, 1)), ZERO),
            ((ZERO, ZERO, ONE, ZERO), ONE),
        )
        aim = ((3, 4), (-150, 1), (1, 50), (-6, 1))
        outcome = solve_program(rows, aim)
        self.assertEqual((outcome.word, outcome.total), ("greatest", (1, 20)))
        self.assertEqual(outcome.point, ((1, 25), ZERO, ONE, ZERO))
        self.assertTrue(proves(rows, aim, outcome))
        self.assertEqual(solved([((1, 1), 0)], (1, 1)), ("greatest", ZERO, (ZERO, ZERO), (ONE,)))
        self.assertEqual(solved([((-1, 1), 0), ((1, -1), 0), ((1, 0), 3)], (0, 1))[1:3], ((3, 1), ((3, 1), (3, 1))))

    def test_bounds_below_0(self):
        self.assertEqual(solved([((-1,), -2), ((1,), 2)], (1,))[:3], ("greatest", (2, 1), ((2, 1),)))
        self.assertEqual(solved([((-1,), -2), ((1,), 2)], (-1,))[:3], ("greatest", (-2, 1), ((2, 1),)))
        self.assertEqual(
            solved([((-1, 0), -1), ((0, -1), -2), ((-1, -1), -3), ((1, 1), 3)], (-1, -1))[:3],
            ("greatest", (-3, 1), (ONE, (2, 1))),
        )
        # A helper that stays at 0 with its row goes, too.
        self.assertEqual(solved([((-1, 0), -1), ((-2, 0), -2), ((1, 1), 4)], (0, 1))[1], (3, 1))

    def test_thirty_of_each(self):
        rows = [
            (tuple([(step * step + 3 * step * place + place) % 7 + 1 for step in range(30)]), place + 40)
            for place in range(30)
        ]
        rows[3] = (tuple([-1] * 30), -2)
        conditions, aim = whole(rows), fractions([step % 5 + 1 for step in range(30)])
        outcome = solve_program(conditions, aim)
        self.assertEqual(outcome.word, "greatest")
        self.assertTrue(proves(conditions, aim, outcome))

    def test_errors(self):
        for conditions, factors in (
            ([], []),
            ([((), 1)], []),
            ([], [1] * 31),
            ([((1,), 1)] * 31, [1]),
            ([((1,), 1)], [1, 1]),
            ([((1, 2), 1)], [1]),
            ([((1, 2), 1), ((1, 2, 3), 1)], [1, 1]),
            ([((), 1)], [1]),
        ):
            with self.assertRaises(MatrixError):
                solve_program(whole(conditions), fractions(factors))
        self.assertEqual(solved([((1,), place) for place in range(30)], [1])[0], "greatest")
        self.assertEqual(solved([], [0] * 30)[0], "greatest")

    def test_total_of(self):
        self.assertEqual(total_of(((1, 2), (2, 3)), ((4, 1), (3, 4))), (5, 2))
        self.assertEqual(total_of((), ()), ZERO)


class TableauTest(unittest.TestCase):
    def test_told_point(self):
        rows = [[ONE, ZERO, (2, 1), (7, 2)], [ZERO, ONE, (-1, 1), (1, 3)]]
        tableau = Tableau(rows, [0, 3], [ZERO, ZERO, (-1, 1), ZERO])
        self.assertEqual((tableau.rows, tableau.basis), (rows, [0, 3]))
        self.assertEqual(tableau.told_point(4), ((7, 2), ZERO, ZERO, (1, 3)))
        self.assertEqual(tableau.told_point(2), ((7, 2), ZERO))
        self.assertEqual(tableau.told_point(0), ())

    def test_helpers_are_for_bounds_below_0(self):
        tableau = begun(whole([((2, 5), 3), ((1, 0), -4), ((0, 1), 0)]), 2)
        self.assertEqual(tableau.basis, [2, 5, 4])
        self.assertEqual(tableau.rows, [
            list(fractions(row)) for row in ((2, 5, 1, 0, 0, 0, 3), (-1, 0, 0, -1, 0, 1, 4), (0, 1, 0, 0, 1, 0, 0))
        ])
        self.assertEqual(tableau.told_point(6), fractions((0, 0, 3, 0, 0, 4)))

    def test_no_rows(self):
        self.assertEqual(Tableau([], [], [ONE, ZERO]).told_point(1), (ZERO,))


class ProofTest(unittest.TestCase):
    def bent(self, outcome, **changes):
        told = dict(zip(("word", "total", "point", "proof"), outcome.shown()))
        told.update(changes)
        return Outcome(told["word"], told["total"], told["point"], told["proof"])

    def assert_no_proof(self, rows, factors, **changes):
        conditions, aim = whole(rows), fractions(factors)
        outcome = solve_program(conditions, aim)
        self.assertTrue(proves(conditions, aim, outcome))
        self.assertFalse(proves(conditions, aim, self.bent(outcome, **changes)), changes)

    def test_bent_words(self):
        for rows, factors in SOME + NONE + ENDLESS:
            own = solved(rows, factors)[0]
            for word in ("greatest", "none", "endless", "least", ""):
                if word != own:
                    self.assert_no_proof(rows, factors, word=word)

    def test_bent_parts(self):
        for rows, factors in SOME + NONE + ENDLESS:
            _, total, point, proof = solved(rows, factors)
            self.assert_no_proof(rows, factors, proof=None)
            self.assert_no_proof(rows, factors, proof=proof + (ZERO,))
            self.assert_no_proof(rows, factors, proof=proof[1:] if proof else (ONE,))
            for place in range(len(proof)):
                self.assert_no_proof(rows, factors, proof=proof[:place] + ((-1, 1),) + proof[place + 1:])
            self.assert_no_proof(rows, factors, total=ZERO if total is None else sum_of(total, (1, 7)))
            if point is None:
                self.assert_no_proof(rows, factors, point=(ZERO,) * len(factors))
            else:
                self.assert_no_proof(rows, factors, point=None)
                self.assert_no_proof(rows, factors, point=point + (ZERO,))
                self.assert_no_proof(rows, factors, point=point[1:])
                self.assert_no_proof(rows, factors, point=((-1, 1),) + point[1:])

    def test_bent_greatest_sums(self):
        rows, factors = [((1, 1), 4), ((1, 3), 6)], (3, 2)
        self.assert_no_proof(rows, factors, total=(13, 1))
        self.assert_no_proof(rows, factors, total=(11, 1), point=((3, 1), ONE))
        self.assert_no_proof(rows, factors, point=((3, 1), ONE))
        self.assert_no_proof(rows, factors, point=((5, 1), ZERO))
        self.assert_no_proof(rows, factors, point=((6, 1), (-3, 1)))
        self.assert_no_proof(rows, factors, proof=((3, 1), ONE))
        self.assert_no_proof(rows, factors, proof=(ZERO, (2, 1)))
        self.assert_no_proof(rows, factors, proof=((9, 2), (-1, 1)))
        self.assert_no_proof(rows, factors, total=(18, 1), point=((6, 1), ZERO), proof=((9, 2), ZERO))

    def test_bent_proofs_of_none(self):
        rows, factors = [((1, 1), 1), ((-1, 0), -1), ((0, -1), -1)], (1, 1)
        self.assertEqual(solved(rows, factors)[3], (ONE, ONE, ONE))
        for proof in ((ZERO, ONE, ONE), (ONE, ZERO, ZERO), (ZERO, ZERO, ZERO), ((2, 1), ONE, ONE)):
            self.assert_no_proof(rows, factors, proof=proof)
        twice = Outcome("none", None, None, ((2, 1), (2, 1), (2, 1)))
        self.assertTrue(proves(whole(rows), fractions(factors), twice))

    def test_bent_directions(self):
        rows, factors = [((1, -2), 1)], (1, 0)
        for proof in ((ZERO, ONE), (ZERO, ZERO), ((3, 1), ONE), ((-2, 1), (-1, 1))):
            self.assert_no_proof(rows, factors, proof=proof)
        self.assert_no_proof(rows, factors, point=((2, 1), ZERO))
        other = Outcome("endless", None, ((1, 2), (5, 1)), (ONE, ONE))
        self.assertTrue(proves(whole(rows), fractions(factors), other))


if __name__ == "__main__":
    unittest.main()
