import random
import unittest
from itertools import combinations, product

from algebrastack.clauses import Solver, check_steps, clause_of, holds_by, joined_clauses
from algebrastack.errors import SolveError


def first_row(clauses, most):
    """Return the true names of the first row of truths that fits, by trying all of so many names; None for none."""
    for row in product((False, True), repeat=most):
        if all(any(row[abs(number) - 1] == (number > 0) for number in clause) for clause in clauses):
            return tuple([place + 1 for place, truth in enumerate(row) if truth])
    return None


def into_holes(many, holes):
    """Return clauses that never fit if there are more than holes: each of many stands in a hole, no two in one."""
    rows = [tuple([one * holes + hole + 1 for hole in range(holes)]) for one in range(many)]
    for hole in range(holes):
        for one, other in combinations(range(many), 2):
            rows.append((-one * holes - hole - 1, -other * holes - hole - 1))
    return rows


NEVER = (
    [(1,), (-1,)],
    [(1, 2), (1, -2), (-1, 2), (-1, -2)],
    [(1,), (-1, 2), (-2, 3), (-3,)],
    [(2, 3), (5, 7), (-7, -2), (-5,), (7, -3), (-7, 2, 60), (-60, -3), (3, -2)],
    into_holes(3, 2),
    into_holes(4, 3),
    [row for row in product((1, -1), (2, -2), (3, -3), (4, -4))],
)


class ClauseTest(unittest.TestCase):
    def test_clause_of(self):
        self.assertEqual(clause_of((3, -1, 2, 3, -1)), (-1, 2, 3))
        self.assertEqual(clause_of([5]), (5,))
        self.assertEqual(clause_of(()), ())
        self.assertEqual(clause_of((60, -59)), (-59, 60))
        self.assertIsNone(clause_of((1, 2, -1)))
        self.assertIsNone(clause_of((60, -60)))
        for numbers in ((0,), (1, 0), (61,), (-61, 1), (1, -1, 0), (1, -1, 61)):
            with self.assertRaises(SolveError):
                clause_of(numbers)

    def test_joined_clauses(self):
        self.assertEqual(joined_clauses((1, 2), (-1, 3), 1), (2, 3))
        self.assertEqual(joined_clauses((-2, 5), (-5, -2, 1), 5), (-2, 1))
        self.assertEqual(joined_clauses((1,), (-1,), 1), ())
        self.assertIsNone(joined_clauses((1, 2), (-2, -1), 1))
        for one, other, name in (
            ((-1, 3), (1, 2), 1), ((1, 2), (3,), 1), ((2,), (-1,), 1), ((), (), 1), ((1, 2), (-2,), 1), ((1,), (1,), 1),
        ):
            with self.assertRaises(SolveError):
                joined_clauses(one, other, name)

    def test_holds_by(self):
        self.assertIs(holds_by((-1, 2), (1, 2)), True)
        self.assertIs(holds_by((-1, 2), (1, 3)), False)
        self.assertIs(holds_by((-1, 2), ()), True)
        self.assertIs(holds_by((1, 2), ()), False)
        self.assertIs(holds_by((), (1, 2)), False)


class SolveTest(unittest.TestCase):
    def test_fits(self):
        for clauses, names in (
            ([], ()),
            ([(1,)], (1,)),
            ([(-1,)], ()),
            ([(1, 2)], (2,)),
            ([(1, 2), (-2, 3)], (2, 3)),
            ([(1, 2), (-2,)], (1,)),
            ([(-5, -7), (5, 7), (60,)], (7, 60)),
            ([(3, 1, 3, 2)], (3,)),
            (into_holes(3, 3), (3, 5, 7)),
        ):
            self.assertEqual(Solver(clauses).solve(), ("fits", names))

    def test_the_first_row_of_truths(self):
        chance = random.Random(7)
        words = set()
        for _ in range(300):
            clauses = [
                [chance.choice((1, -1)) * name for name in chance.sample(range(1, 8), chance.choice((1, 2, 3, 3)))]
                for _ in range(chance.randrange(2, 26))
            ]
            word, told = Solver(clauses).solve()
            plain = first_row(clauses, 7)
            self.assertEqual((word, told) if word == "fits" else None, None if plain is None else ("fits", plain))
            if word == "never":
                check_steps(clauses, told)
            words.add(word)
        self.assertEqual(words, {"fits", "never"})

    def test_never(self):
        for clauses in NEVER:
            solver = Solver(clauses)
            word, steps = solver.solve()
            self.assertEqual(word, "never")
            self.assertEqual(solver.solve(), (word, steps))
            self.assertIsInstance(steps, tuple)
            self.assertEqual(steps[-1][3], ())
            shown = {clause_of(clause) for clause in clauses}
            for name, one, other, found in steps:
                self.assertTrue(name in one and -name in other)
                self.assertTrue(one in shown and other in shown)
                self.assertEqual(found, joined_clauses(one, other, name))
                shown.add(found)
            self.assertIsNone(check_steps(clauses, steps))

    def test_an_empty_clause(self):
        self.assertEqual(Solver([()]).solve(), ("never", ()))
        self.assertEqual(Solver([(1, 2), (), (3,)]).solve(), ("never", ()))
        self.assertIsNone(check_steps([(1, 2), ()], ()))

    def test_names_both_ways(self):
        self.assertEqual(Solver([(1, -1)]).solve(), ("fits", ()))
        self.assertEqual(Solver([(1, -1, 2), (3,)]).solve(), ("fits", (3,)))
        self.assertEqual(Solver([(1, -1, 2), (1,), (-1,)]).solve()[0], "never")

    def test_400_clauses(self):
        rows = [(one, other) for one, other in combinations(range(1, 61), 2)]
        self.assertEqual(Solver(rows[:400]).solve()[0], "fits")
        both = [(name, -name) for name in range(1, 61)]
        self.assertEqual(Solver(rows[:400] + both).solve()[0], "fits")
        for clauses in (rows[:401], rows[:401] + both, [(1,)] * 401):
            with self.assertRaises(SolveError):
                Solver(clauses)

    def test_numbers_that_are_no_names(self):
        for clauses in ([(0,)], [(1,), (61,)], [(1, -61)]):
            with self.assertRaises(SolveError):
                Solver(clauses)

    def test_20000_partings(self):
        # 16632 partings are enough for these.
        solver = Solver(into_holes(7, 6))
        word, steps = solver.solve()
        self.assertEqual((word, solver.tried), ("never", 16632))
        check_steps(into_holes(7, 6), steps)
        with self.assertRaises(SolveError):
            Solver(into_holes(8, 7)).solve()

    def test_sixty_names(self):
        rows = [(1,)] + [(-name, name + 1) for name in range(1, 60)]
        self.assertEqual(Solver(rows).solve(), ("fits", tuple(range(1, 61))))
        word, steps = Solver(rows + [(-60,)]).solve()
        self.assertEqual(word, "never")
        check_steps(rows + [(-60,)], steps)


class StepsTest(unittest.TestCase):
    def assert_no_proof(self, clauses, steps):
        with self.assertRaises(SolveError):
            check_steps(clauses, steps)

    def test_clauses_are_taken_as_clause_of_does(self):
        self.assertIsNone(check_steps([(2, 1, 1), (-1, 2), [-2]], ((1, (1, 2), (-1, 2), (2,)), (2, (2,), (-2,), ()))))
        self.assertIsNone(check_steps([(1, -1), (1,), (-1,)], ((1, (1,), (-1,), ()),)))
        self.assert_no_proof([(1, -1), (1,)], ((1, (-1, 1), (-1, 1), (-1, 1)),))
        self.assert_no_proof([(1, -1)], ((1, None, None, ()),))
        self.assert_no_proof([(0,), ()], ())
        self.assert_no_proof([(61,), ()], ())

    def test_cut_proofs(self):
        for clauses in NEVER:
            steps = Solver(clauses).solve()[1]
            self.assert_no_proof(clauses, ())
            self.assert_no_proof(clauses, steps[:-1])
            if len(steps) > 1:
                self.assert_no_proof(clauses, steps[1:])

    def test_bent_proofs(self):
        for clauses in NEVER:
            steps = Solver(clauses).solve()[1]
            name, one, other, found = steps[-1]
            for bent in (
                (name, other, one, found),
                (name + 1, one, other, found),
                (name, one, other, (59,)),
                (name, one, other, None),
                (name, (name, 58), other, found),
                (name, one, one, found),
            ):
                self.assert_no_proof(clauses, steps[:-1] + (bent,))
                self.assert_no_proof(clauses, steps[:-1] + (bent, (1, (1,), (-1,), ())))

    def test_other_clauses(self):
        steps = Solver(NEVER[1]).solve()[1]
        self.assert_no_proof(NEVER[1][:3], steps)
        self.assert_no_proof([], steps)
        self.assert_no_proof([], ())
        self.assert_no_proof([(1,)], ((1, (1,), (-1,), ()),))

    def test_what_is_always_true_proves_nothing(self):
        self.assert_no_proof([(1, 2), (-2, -1), (3,)], ((1, (1, 2), (-2, -1), None),))
        self.assert_no_proof([(1, 2), (-2, -1)], ((1, (1, 2), (-2, -1), (-2, 2)),))


if __name__ == "__main__":
    unittest.main()
