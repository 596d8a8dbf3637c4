import unittest
from fractions import Fraction
from itertools import product

from algebrastack.errors import SolveError
from algebrastack.polys import Field, poly, poly_value, trimmed
from algebrastack.sums import (
    by_falling,
    by_rule,
    carried_on,
    differences,
    falling,
    far_number,
    from_falling,
    moved_on,
    shortest_rule,
    sum_to,
    telescoped,
)

Q = Field()
FIBONACCI = tuple([(number, 1) for number in (0, 1, 1, 2, 3, 5, 8, 13)])
SOME = (
    (),
    poly(Q, (4,)),
    poly(Q, (0, 1)),
    poly(Q, (1, 2, 3)),
    ((1, 2), (0, 1), (-3, 5), (7, 1)),
    poly(Q, (0, 0, 0, 0, 0, 0, 1)),
)


def value(one, at):
    return Fraction(*poly_value(Q, one, (at, 1)))


def whole(*numbers):
    return tuple([(number, 1) for number in numbers])


class SumTest(unittest.TestCase):
    def test_sums_take_in_0_and_n(self):
        for one in SOME:
            found = sum_to(one)
            self.assertEqual(found, trimmed(Q, found))
            total = Fraction(0)
            for at in range(25):
                total += value(one, at)
                self.assertEqual(value(found, at), total)
        self.assertEqual(sum_to(poly(Q, (0, 1))), ((0, 1), (1, 2), (1, 2)))
        self.assertEqual(sum_to(poly(Q, (5,))), poly(Q, (5, 5)))
        self.assertEqual(sum_to(()), ())

    def test_telescoped(self):
        for one in SOME:
            found = telescoped(one)
            self.assertEqual(value(found, 0), 0)
            for at in range(-10, 15):
                self.assertEqual(value(found, at + 1) - value(found, at), value(one, at))
        self.assertEqual(telescoped(poly(Q, (0, 1))), ((0, 1), (-1, 2), (1, 2)))
        self.assertEqual(telescoped(()), ())

    def test_differences(self):
        self.assertEqual(differences(whole(1, 4, 9, 16)), (whole(1, 4, 9, 16), whole(3, 5, 7), whole(2, 2), whole(0)))
        self.assertEqual(differences([(1, 2), (1, 3)]), (((1, 2), (1, 3)), ((-1, 6),)))
        self.assertEqual(differences(whole(7)), (whole(7),))

    def test_falling_products(self):
        self.assertEqual(falling(0), poly(Q, (1,)))
        self.assertEqual(falling(1), poly(Q, (0, 1)))
        self.assertEqual(falling(2), poly(Q, (0, -1, 1)))
        self.assertEqual(falling(4), poly(Q, (0, -6, 11, -6, 1)))
        for many in range(7):
            self.assertEqual(len(falling(many)), many + 1)
            self.assertEqual([value(falling(many), at) for at in range(many)], [0] * many)

    def test_back_and_forth(self):
        for one in SOME:
            factors = by_falling(one)
            self.assertIsInstance(factors, tuple)
            self.assertEqual(from_falling(factors), one)
            for at in range(10):
                parts = [Fraction(*part) * value(falling(many), at) for many, part in enumerate(factors)]
                self.assertEqual(sum(parts), value(one, at))
        self.assertEqual(by_falling(poly(Q, (0, 0, 0, 1))), whole(0, 1, 3, 1))
        self.assertEqual(by_falling(()), ())
        self.assertEqual(by_falling(poly(Q, (3,))), whole(3))
        self.assertEqual(from_falling(whole(0, 1, 3, 1)), poly(Q, (0, 0, 0, 1)))
        self.assertEqual(from_falling(whole(2, 0, 0)), poly(Q, (2,)))
        self.assertEqual(from_falling(()), ())


class RuleTest(unittest.TestCase):
    def fits(self, row, rule, field):
        for place in range(len(rule), len(row)):
            told = field.zero
            for step, factor in enumerate(rule):
                told = field.plus(told, field.times(factor, row[place - 1 - step]))
            if told != row[place]:
                return False
        return True

    def test_no_shorter_rule_fits(self):
        for prime, most in ((2, 7), (3, 5)):
            field = Field(prime)
            for many in range(most + 1):
                for row in product(range(prime), repeat=many):
                    rule = shortest_rule(row, field)
                    self.assertIsInstance(rule, tuple)
                    self.assertTrue(self.fits(row, rule, field), (row, rule))
                    for length in range(len(rule)):
                        for other in product(range(prime), repeat=length):
                            self.assertFalse(self.fits(row, other, field), (row, rule, other))

    def test_over_the_fractions(self):
        self.assertEqual(shortest_rule(FIBONACCI, Q), whole(1, 1))
        self.assertEqual(shortest_rule(whole(1, 2, 4, 8), Q), whole(2))
        self.assertEqual(shortest_rule(((1, 1), (1, 2), (1, 4), (1, 8)), Q), ((1, 2),))
        self.assertEqual(shortest_rule(whole(0, 1, 4, 9, 16, 25, 36), Q), whole(3, -3, 1))
        self.assertEqual(shortest_rule((), Q), ())
        self.assertEqual(shortest_rule(whole(0, 0, 0), Q), ())
        self.assertEqual(shortest_rule(whole(5, 0, 0), Q), whole(0))
        self.assertEqual(shortest_rule(whole(5, 3, 0, 0, 0), Q), whole(0, 0))
        self.assertEqual(len(shortest_rule(whole(0, 0, 0, 1), Q)), 4)
        self.assertEqual(len(shortest_rule(whole(0, 0, 1, 0, 0), Q)), 3)
        row = whole(3, 1, 4, 1, 5, 9, 2, 6)
        self.assertEqual(len(shortest_rule(row, Q)), 4)
        self.assertTrue(self.fits(row, shortest_rule(row, Q), Q))

    def test_rules_come_back(self):
        field = Field(10007)
        rule = (3, 0, 9999, 17, 5)
        row = carried_on((1, 2, 3, 4, 6), rule, 20, field)
        self.assertEqual(shortest_rule(row, field), rule)

    def test_carried_on(self):
        self.assertEqual(carried_on(whole(0, 1), whole(1, 1), 8, Q), FIBONACCI)
        self.assertEqual(carried_on(FIBONACCI, whole(1, 1), 3, Q), FIBONACCI[:3])
        self.assertEqual(carried_on(FIBONACCI, whole(1, 1), 0, Q), ())
        self.assertEqual(carried_on((1,), (2,), 6, Field(7)), (1, 2, 4, 1, 2, 4))
        self.assertEqual(carried_on((5, 6), (), 4, Field(7)), (5, 6, 0, 0))
        self.assertEqual(carried_on((), (), 2, Q), whole(0, 0))
        self.assertEqual(carried_on([(2, 1), (3, 1)], whole(1, -1), 5, Q), whole(2, 3, 1, -2, -3))

    def test_far_numbers(self):
        for field, row, rule in (
            (Q, whole(0, 1), whole(1, 1)),
            (Q, FIBONACCI, whole(1, 1)),
            (Q, whole(1, 2, 3), ((1, 2), (0, 1), (-1, 3))),
            (Field(7), (1, 5, 2, 6), (3, 0, 4)),
            (Field(2), (1, 0, 1), (0, 0, 1)),
            (Field(5), (3,), ()),
            (Field(5), (3,), (2,)),
        ):
            told = carried_on(row, rule, 30, field)
            self.assertEqual([far_number(row, rule, place, field) for place in range(30)], list(told))

    def test_far_away(self):
        prime = 1000003
        found = far_number((0, 1), (1, 1), 10 ** 18, Field(prime))
        self.assertEqual(found, self.by_doubling(10 ** 18, prime)[0])
        self.assertEqual(far_number(FIBONACCI, whole(1, 1), 100, Q), (354224848179261915075, 1))

    def by_doubling(self, place, prime):
        """Return the Fibonacci numbers at a place and behind it, by a prime."""
        if place == 0:
            return 0, 1
        low, high = self.by_doubling(place // 2, prime)
        even, odd = low * (2 * high - low) % prime, (low * low + high * high) % prime
        return (odd, (even + odd) % prime) if place % 2 == 1 else (even, odd)

    def test_too_few_numbers(self):
        for row in ((), whole(1)):
            with self.assertRaises(SolveError):
                carried_on(row, whole(1, 1), 5, Q)
            for place in (0, 1, 9):
                with self.assertRaises(SolveError):
                    far_number(row, whole(1, 1), place, Q)

    def test_powers_by_a_rule(self):
        # x^3 = 3 x^2 + 0 x + 4 by 7.
        field, rule = Field(7), (3, 0, 4)
        self.assertEqual(moved_on((1, 2), rule, field), (0, 1, 2))
        self.assertEqual(moved_on((1, 2, 5), rule, field), (6, 1, 3))
        self.assertEqual(moved_on((), rule, field), ())
        self.assertEqual(moved_on((0, 0, 1), (0, 0, 0), field), ())
        self.assertEqual(by_rule((1, 2, 5), rule, field), (1, 2, 5))
        self.assertEqual(by_rule((0, 1, 2, 5), rule, field), (6, 1, 3))
        self.assertEqual(by_rule((0, 0, 0, 0, 1), rule, field), (5, 4, 2))
        self.assertEqual(by_rule((1, 2, 3), (), field), ())
        self.assertEqual(by_rule(whole(0, 0, 0, 0, 0, 1), whole(1, 1), Q), whole(3, 5))
        one = (0, 1)
        for _ in range(20):
            one = moved_on(one, (1, 1), Field(1009))
        self.assertEqual(one, by_rule((0,) * 21 + (1,), (1, 1), Field(1009)))


if __name__ == "__main__":
    unittest.main()
