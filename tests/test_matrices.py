import unittest
from fractions import Fraction
from itertools import permutations, product
from math import gcd

from algebrastack.errors import MatrixError
from algebrastack.matrices import (
    characteristic,
    checked,
    determinant,
    dot,
    inverse_matrix,
    matrix_plus,
    matrix_times,
    null_space,
    rank,
    solution,
    steps_form,
    turned_over,
    unit,
    value_of_poly,
    whole_steps,
)
from algebrastack.polys import Field, poly, poly_plus, poly_times

ZERO, ONE = (0, 1), (1, 1)


def matrix(*rows):
    """Return a matrix of whole numbers or of Python's fractions."""
    return tuple([tuple([(Fraction(x).numerator, Fraction(x).denominator) for x in row]) for row in rows])


def column_of(rows, column):
    return tuple([row[0] for row in matrix_times(rows, tuple([(x,) for x in column]))])


def sign_of(order):
    turns = sum(1 for k in range(len(order)) for j in range(k) if order[j] > order[k])
    return -1 if turns % 2 == 1 else 1


def by_all_orders(rows):
    """Return the determinant as the sum over all orders."""
    whole = Fraction(0)
    for order in permutations(range(len(rows))):
        part = Fraction(sign_of(order))
        for place, step in enumerate(order):
            part *= Fraction(*rows[place][step])
        whole += part
    return whole.numerator, whole.denominator


SQUARES = (
    matrix([5]),
    matrix([0]),
    matrix([1, 2], [3, 4]),
    matrix([1, 2], [2, 4]),
    matrix([0, 1], [1, 0]),
    matrix([0, 0, 2], [0, 3, 1], [5, 1, 1]),
    matrix([1, 2, 3], [4, 5, 6], [7, 8, 9]),
    matrix([Fraction(1, 2), Fraction(-1, 3), 0], [2, 0, Fraction(7, 5)], [1, 1, 1]),
    matrix([0, 2, 0, 1], [1, 0, 0, 3], [0, 0, 4, 0], [2, 1, 1, 1]),
    matrix([0, 0], [0, 0]),
)
OTHERS = (
    matrix([1, 2, 3], [2, 4, 6]),
    matrix([0, 0, 1, 2], [0, 3, 0, 1], [0, 3, 1, 3]),
    matrix([1], [2], [3]),
    matrix([0, 0, 0]),
    matrix([2, 4, Fraction(1, 3), 5, 6]),
)


class ShapeTest(unittest.TestCase):
    def test_checked(self):
        self.assertEqual(checked([[ONE, ZERO], [ZERO, ONE]]), ((ONE, ZERO), (ZERO, ONE)))
        for rows in ((), ((),), ((), ()), ((ONE,), (ONE, ONE)), ((ONE, ONE), (ONE,)), ((ONE,), ()), []):
            with self.assertRaises(MatrixError):
                checked(rows)

    def test_units_and_turned_ones(self):
        self.assertEqual(unit(1), ((ONE,),))
        self.assertEqual(unit(2), ((ONE, ZERO), (ZERO, ONE)))
        self.assertEqual(turned_over(matrix([1, 2, 3], [4, 5, 6])), matrix([1, 4], [2, 5], [3, 6]))

    def test_sums_and_products(self):
        one, other = matrix([1, 2], [3, 4]), matrix([5, 6], [7, Fraction(1, 2)])
        self.assertEqual(matrix_plus(one, other), matrix([6, 8], [10, Fraction(9, 2)]))
        self.assertEqual(matrix_plus(one, other, (-2, 1)), matrix([-9, -10], [-11, 3]))
        self.assertEqual(matrix_times(one, other), matrix([19, 7], [43, 20]))
        self.assertEqual(matrix_times(matrix([1, 2, 3]), matrix([4], [5], [6])), matrix([32]))
        self.assertEqual(matrix_times(matrix([1], [2]), matrix([3, 4])), matrix([3, 4], [6, 8]))
        self.assertEqual(dot((ONE, (2, 3)), ((1, 2), (3, 4))), ONE)
        self.assertEqual(dot((), ()), ZERO)

    def test_other_shapes(self):
        one = matrix([1, 2], [3, 4])
        for other in (matrix([1, 2]), matrix([1], [2]), matrix([1, 2, 3], [4, 5, 6])):
            with self.assertRaises(MatrixError):
                matrix_plus(one, other)
        for other in (matrix([1, 2]), matrix([1], [2], [3])):
            with self.assertRaises(MatrixError):
                matrix_times(one, other)

    def test_what_is_not_square(self):
        for rows in (matrix([1, 2]), matrix([1], [2]), matrix([1, 0, 0], [0, 1, 0])):
            for call in (determinant, inverse_matrix, characteristic, lambda one: value_of_poly((ONE,), one)):
                with self.assertRaises(MatrixError):
                    call(rows)


class StepsTest(unittest.TestCase):
    def test_reduced_rows(self):
        for rows in SQUARES + OTHERS:
            found = steps_form(rows)
            self.assertIsInstance(found, tuple)
            steps, columns, factor = found
            self.assertEqual(list(columns), sorted(set(columns)))
            for place, row in enumerate(steps):
                if place >= len(columns):
                    self.assertEqual(row, (ZERO,) * len(row))
                    continue
                self.assertEqual(row[: columns[place]], (ZERO,) * columns[place])
                beside = [other[columns[place]] for other in steps]
                self.assertEqual(beside, [ONE if step == place else ZERO for step in range(len(steps))])
            self.assertEqual(rank(rows), len(columns))
            self.assertEqual(rank(tuple(rows) + steps), len(columns))

    def test_known_ones(self):
        self.assertEqual(steps_form(matrix([0, 2], [3, 4])), (unit(2), (0, 1), (-6, 1)))
        found = steps_form(matrix([1, 2, 3], [2, 4, 7]))
        self.assertEqual(found[:2], (matrix([1, 2, 0], [0, 0, 1]), (0, 2)))
        self.assertEqual(steps_form(matrix([0, 0], [0, 5]))[:2], (matrix([0, 1], [0, 0]), (1,)))

    def test_ranks(self):
        self.assertEqual([rank(rows) for rows in SQUARES], [1, 0, 2, 1, 2, 3, 2, 3, 4, 0])
        self.assertEqual([rank(rows) for rows in OTHERS], [1, 2, 1, 0, 1])

    def test_determinants(self):
        for rows in SQUARES:
            self.assertEqual(determinant(rows), by_all_orders(rows))
        self.assertEqual(determinant(matrix([1, 2], [3, 4])), (-2, 1))

    def test_the_sign_when_rows_are_exchanged(self):
        one = matrix([2, 1, 0], [1, 3, 1], [0, 1, 4])
        self.assertEqual(determinant(one), (18, 1))
        for order in permutations(range(3)):
            turned = tuple([one[place] for place in order])
            self.assertEqual(determinant(turned), (18 * sign_of(order), 1))

    def test_the_factor_is_the_determinant_of_what_has_an_inverse(self):
        for rows in SQUARES:
            if determinant(rows) != ZERO:
                self.assertEqual(steps_form(rows)[2], determinant(rows))

    def test_inverses(self):
        for rows in SQUARES:
            if determinant(rows) == ZERO:
                with self.assertRaises(MatrixError):
                    inverse_matrix(rows)
            else:
                found = inverse_matrix(rows)
                self.assertEqual(matrix_times(rows, found), unit(len(rows)))
                self.assertEqual(matrix_times(found, rows), unit(len(rows)))
        self.assertEqual(inverse_matrix(matrix([2, 0], [0, 3])), matrix([Fraction(1, 2), 0], [0, Fraction(1, 3)]))

    def test_null_spaces(self):
        for rows in SQUARES + OTHERS:
            found = null_space(rows)
            self.assertIsInstance(found, tuple)
            columns = steps_form(rows)[1]
            free = [place for place in range(len(rows[0])) if place not in columns]
            self.assertEqual(len(found), len(free))
            for place, column in zip(free, found):
                self.assertEqual(column_of(rows, column), (ZERO,) * len(rows))
                self.assertEqual([column[step] for step in free], [ONE if step == place else ZERO for step in free])
        self.assertEqual(null_space(matrix([1, 2, 3])), (((-2, 1), ONE, ZERO), ((-3, 1), ZERO, ONE)))

    def test_solutions(self):
        for rows in SQUARES + OTHERS:
            for column in product((ZERO, ONE, (-3, 2)), repeat=len(rows[0])):
                values = column_of(rows, column)
                found = solution(rows, values)
                self.assertEqual(column_of(rows, found), values)
                for place in range(len(rows[0])):
                    if place not in steps_form(rows)[1]:
                        self.assertEqual(found[place], ZERO)
        self.assertIsNone(solution(matrix([1, 2], [2, 4]), (ONE, ONE)))
        self.assertIsNone(solution(matrix([0]), (ONE,)))
        self.assertEqual(solution(matrix([0, 2]), ((3, 1),)), (ZERO, (3, 2)))
        for values in ((), (ONE,), (ONE, ONE, ONE)):
            with self.assertRaises(MatrixError):
                solution(matrix([1, 2], [3, 4]), values)


class CharacteristicTest(unittest.TestCase):
    def by_orders(self, rows):
        """Return the determinant of the variable less the matrix, by all orders."""
        field, found = Field(), ()
        for order in permutations(range(len(rows))):
            part = poly(field, (sign_of(order),))
            for place, step in enumerate(order):
                number = Fraction(*rows[place][step])
                entry = [(-number.numerator, number.denominator)] + ([ONE] if place == step else [])
                part = poly_times(field, part, tuple(entry) if entry != [ZERO] else ())
            found = poly_plus(field, found, part)
        return found

    def test_determinants_of_the_variable_less_the_matrix(self):
        for rows in SQUARES:
            found = characteristic(rows)
            self.assertIsInstance(found, tuple)
            self.assertEqual(found[-1], ONE)
            self.assertEqual(found, self.by_orders(rows))
        self.assertEqual(characteristic(matrix([1, 2], [3, 4])), poly(Field(), (-2, -5, 1)))

    def test_the_value_at_the_matrix_is_0(self):
        for rows in SQUARES:
            self.assertEqual(value_of_poly(characteristic(rows), rows), ((ZERO,) * len(rows),) * len(rows))

    def test_values_of_polynomials(self):
        one = matrix([1, 2], [3, 4])
        self.assertEqual(value_of_poly(poly(Field(), (1, 0, 2)), one), matrix([15, 20], [30, 45]))
        self.assertEqual(value_of_poly((), one), matrix([0, 0], [0, 0]))
        self.assertEqual(value_of_poly(((1, 2),), one), matrix([Fraction(1, 2), 0], [0, Fraction(1, 2)]))


class WholeStepsTest(unittest.TestCase):
    def whole_times(self, one, other):
        return [[sum(x * y for x, y in zip(row, column)) for column in zip(*other)] for row in one]

    def check(self, rows):
        found, left, right = whole_steps(rows)
        self.assertEqual([list(row) for row in found], self.whole_times(self.whole_times(left, rows), right))
        for one in (left, right):
            self.assertIn(determinant(matrix(*one)), (ONE, (-1, 1)))
        many = min(len(rows), len(rows[0]))
        told = [found[place][place] for place in range(many)]
        for place, row in enumerate(found):
            for step, number in enumerate(row):
                self.assertIsInstance(number, int)
                self.assertTrue(number == 0 or place == step)
        self.assertTrue(all(number >= 0 for number in told))
        for number, other in zip(told, told[1:]):
            self.assertTrue(other == 0 if number == 0 else other % number == 0, told)
        return told

    def test_known_ones(self):
        self.assertEqual(self.check(((2, 4, 4), (-6, 6, 12), (10, 4, 16))), [2, 2, 156])
        self.assertEqual(self.check(((2, 0), (0, 3))), [1, 6])
        self.assertEqual(self.check(((4, 0), (0, 6))), [2, 12])
        self.assertEqual(self.check(((0, 0), (0, 5))), [5, 0])
        self.assertEqual(self.check(((-7,),)), [7])
        self.assertEqual(self.check(((0,),)), [0])
        self.assertEqual(self.check(((0, 0, 0), (0, 0, 0))), [0, 0])
        self.assertEqual(self.check(((6, 10, 15),)), [1])
        self.assertEqual(self.check(((6,), (10,), (14,))), [2])

    def test_all_small_ones(self):
        for numbers in product((-2, 0, 3, 4), repeat=4):
            told = self.check((numbers[:2], numbers[2:]))
            self.assertEqual(told[0], gcd(*numbers))
            self.assertEqual(told[0] * told[1], abs(numbers[0] * numbers[3] - numbers[1] * numbers[2]))

    def test_other_shapes(self):
        rows = tuple([tuple([(k * 7 + j * j * 11 + k * j) % 19 - 9 for j in range(5)]) for k in range(3)])
        self.check(rows)
        self.check(tuple(zip(*rows)))
        self.check(tuple([tuple([12 * number for number in row]) for row in rows]))

    def test_no_matrix(self):
        for rows in ((), ((),), ((1,), (1, 2))):
            with self.assertRaises(MatrixError):
                whole_steps(rows)


if __name__ == "__main__":
    unittest.main()
