import unittest
from fractions import Fraction
from math import isqrt

from algebrastack.errors import MatrixError
from algebrastack.lattices import (
    inner,
    is_reduced,
    nearest_whole,
    reduced_rows,
    relation,
    straightened,
)
from algebrastack.matrices import solution, turned_over

SOME = (
    ((1, 0), (0, 1)),
    ((201, 37), (1648, 297)),
    ((1, 1, 1), (-1, 0, 2), (3, 5, 6)),
    ((4, 1, 7), (-3, 8, 0)),
    ((7,),),
    ((0, 0, 12345), (0, 678, 91011), (3, 1415, 92653)),
    ((1, 0, 0, 314159), (0, 1, 0, 271828), (0, 0, 1, 141421)),
    ((10, 5, 5), (5, 10, 5), (5, 5, 10)),
    tuple([tuple([(k * k * 7919 + j * j * j * 104729 + k * j * 31) % 1009 for j in range(5)]) for k in range(5)]),
)
HANGING = (((1, 2), (2, 4)), ((0, 0),), ((1, 0), (0, 0)), ((1, 2), (3, 4), (5, 6)), ((0, 0), (1, 0)))


def told(rows):
    """Return the same rows with fractions instead of whole numbers."""
    return [tuple([(number, 1) for number in row]) for row in rows]


def exact(rows):
    return [[Fraction(*number) for number in row] for row in rows]


class StraightTest(unittest.TestCase):
    def test_inner_products(self):
        self.assertEqual(inner(((1, 2), (1, 3)), ((2, 1), (-3, 1))), (0, 1))
        self.assertEqual(inner(((1, 2), (1, 3)), ((1, 1), (1, 1))), (5, 6))
        self.assertEqual(inner((), ()), (0, 1))

    def test_rows_at_right_angles(self):
        for rows in SOME + HANGING:
            found = straightened(rows)
            self.assertIsInstance(found, tuple)
            straight, factors = found
            self.assertEqual(len(straight), len(rows))
            for place, row in enumerate(straight):
                for other in straight[:place]:
                    self.assertEqual(inner(row, other), (0, 1))
                self.assertEqual(len(factors[place]), place)
                whole = [Fraction(*number) for number in row]
                for factor, other in zip(factors[place], straight):
                    whole = [a + Fraction(*factor) * Fraction(*b) for a, b in zip(whole, other)]
                self.assertEqual(whole, [Fraction(number) for number in rows[place]])

    def test_rows_of_fractions(self):
        rows = (((1, 2), (1, 3)), ((5, 7), (-1, 1)))
        straight, factors = straightened(rows)
        self.assertEqual(straight[0], rows[0])
        self.assertEqual(inner(straight[0], straight[1]), (0, 1))
        self.assertEqual(straightened(told(SOME[2])), straightened(SOME[2]))

    def test_the_nearest_whole_number(self):
        for one, whole in (
            ((0, 1), 0), ((1, 3), 0), ((2, 3), 1), ((1, 2), 1), ((3, 2), 2), ((-1, 2), 0), ((-3, 2), -1),
            ((-1, 3), 0), ((-2, 3), -1), ((-5, 1), -5), ((7, 1), 7), ((-7, 4), -2),
        ):
            self.assertEqual(nearest_whole(one), whole, one)


class ReducedTest(unittest.TestCase):
    def is_short(self, rows):
        straight, factors = straightened(rows)
        squares = [sum(number * number for number in row) for row in exact(straight)]
        if any(abs(factor) > Fraction(1, 2) for row in exact(factors) for factor in row):
            return False
        for place in range(1, len(rows)):
            factor = Fraction(*factors[place][place - 1])
            if squares[place] < (Fraction(3, 4) - factor * factor) * squares[place - 1]:
                return False
        return True

    def spans(self, rows, others):
        """Return True if each of the others is a whole sum of rows."""
        columns = turned_over(told(rows))
        for other in others:
            found = solution(columns, tuple([(number, 1) for number in other]))
            if found is None or any(below != 1 for above, below in found):
                return False
        return True

    def test_short_rows_that_span_the_same(self):
        for rows in SOME:
            for given in (rows, list(rows), rows[::-1]):
                found = reduced_rows(given)
                self.assertIsInstance(found, tuple)
                self.assertEqual(len(found), len(rows))
                self.assertTrue(all(isinstance(number, int) for row in found for number in row))
                self.assertTrue(self.is_short(found), found)
                self.assertTrue(is_reduced(found))
                self.assertTrue(self.spans(found, rows))
                self.assertTrue(self.spans(rows, found))

    def test_short_ones(self):
        found = reduced_rows(((1, 0), (0, 1)))
        self.assertEqual({tuple(map(abs, row)) for row in found}, {(1, 0), (0, 1)})
        found = reduced_rows(((201, 37), (1648, 297)))
        self.assertEqual(sorted(a * a + b * b for a, b in found), [1025, 1601])

    def test_is_reduced(self):
        for rows in SOME:
            self.assertEqual(is_reduced(rows), self.is_short(rows))
        self.assertTrue(is_reduced(((1, 0), (0, 1))))
        self.assertTrue(is_reduced(((2, 0), (1, 2))))
        self.assertFalse(is_reduced(((2, 0), (2, 1))))
        self.assertFalse(is_reduced(((2, 0), (3, 9))))
        self.assertFalse(is_reduced(((5, 0), (0, 1))))
        # At the very bound, and just above it: 3/4 less the square of 1/2, times the one before.
        self.assertTrue(is_reduced(((4, 0, 0), (2, 2, 2))))
        self.assertFalse(is_reduced(((4, 0, 0), (2, 2, 1))))
        self.assertTrue(is_reduced(((1, 0, 0), (0, 4, 0), (0, 2, 3))))
        self.assertFalse(is_reduced(((1, 0, 0), (0, 4, 0), (0, 2, 2), (0, 0, 1))))
        self.assertTrue(is_reduced(((5,),)))

    def test_rows_that_hang_on_others(self):
        for rows in HANGING:
            with self.assertRaises(MatrixError):
                reduced_rows(rows)

    def test_no_rows_and_other_lengths(self):
        for rows in ([], (), ((1, 2), (3,)), [(1,), (1, 2)], [()]):
            with self.assertRaises(MatrixError):
                reduced_rows(rows)


class RelationTest(unittest.TestCase):
    def test_whole_relations(self):
        for numbers in (
            ((1, 2), (1, 3)),
            ((3, 7), (-2, 5), (11, 4)),
            ((1, 1), (1, 1)),
            ((0, 1), (5, 3)),
            ((123, 1000), (456, 1000), (789, 1000)),
        ):
            found = relation(numbers, 10 ** 12)
            self.assertIsInstance(found, tuple)
            self.assertEqual(len(found), len(numbers))
            self.assertTrue(any(found))
            self.assertEqual(sum(factor * Fraction(*number) for factor, number in zip(found, numbers)), 0)

    def test_the_polynomial_of_a_number_that_is_nearly_told(self):
        scale = 10 ** 30
        root = Fraction(isqrt(2 * scale * scale) + isqrt(3 * scale * scale), scale)
        powers = [root ** exponent for exponent in range(5)]
        found = relation([(one.numerator, one.denominator) for one in powers], 10 ** 25)
        self.assertIn(found, ((1, 0, -10, 0, 1), (-1, 0, 10, 0, -1)))

    def test_no_short_relation(self):
        found = relation(((1, 1), (10 ** 6 + 3, 10 ** 6)), 10)
        self.assertTrue(any(found))

    def test_too_few_numbers(self):
        for numbers in ((), ((1, 2),)):
            with self.assertRaises(MatrixError):
                relation(numbers, 1000)


if __name__ == "__main__":
    unittest.main()
