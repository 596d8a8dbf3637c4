import unittest
from fractions import Fraction
from functools import cmp_to_key

from algebrastack.errors import PolyError
from algebrastack.polys import (
    Field,
    degree_of,
    monic_of,
    poly,
    poly_divided,
    poly_plus,
    poly_power,
    poly_times,
    poly_value,
    scaled,
    slope_of,
)
from algebrastack.roots import (
    Root,
    chain,
    changes,
    compare_roots,
    count_roots,
    rational_roots,
    real_roots,
    root_bound,
    sign_at,
    square_free,
)

Q = Field()


def fractions(*numbers):
    return poly(Q, numbers)


def product_of(*parts):
    found = fractions(1)
    for part in parts:
        found = poly_times(Q, found, part)
    return found


def with_roots(*roots):
    """Return the polynomial with fractions as roots."""
    return product_of(*[((-root.numerator, root.denominator), (1, 1)) for root in map(Fraction, roots)])


def pair(one):
    return Fraction(one).numerator, Fraction(one).denominator


def value(one, point):
    return Fraction(*poly_value(Q, one, pair(point)))


TWO = fractions(-2, 0, 1)
SOME = (
    fractions(5),
    fractions(1, 2),
    fractions(1, 0, 1),
    TWO,
    fractions(-1, 0, 1),
    fractions(0, 0, 0, 1),
    with_roots(1, 2, 3, 4),
    with_roots(Fraction(1, 3), Fraction(1, 3), Fraction(-7, 5)),
    product_of(TWO, TWO, fractions(-3, 0, 1), fractions(1, 1, 1)),
    product_of(TWO, with_roots(Fraction(141421356237, 10 ** 11), Fraction(7, 5), 0)),
    fractions(1, -5, 0, 0, 0, 1),
    with_roots(Fraction(1, 10 ** 6), Fraction(1, 10 ** 6 + 1), Fraction(1, 10 ** 6 + 2)),
    scaled(Q, fractions(2, -7, 0, 3), (-5, 11)),
    product_of(fractions(-1, 0, 0, 7), fractions(-1, 0, 0, 8), fractions(1, 0, 0, 7)),
)


class CountTest(unittest.TestCase):
    def test_square_free(self):
        one = product_of(poly_power(Q, with_roots(1), 3), poly_power(Q, TWO, 2), fractions(7))
        self.assertEqual(monic_of(Q, square_free(one)), product_of(with_roots(1), TWO))
        self.assertEqual(degree_of(square_free(fractions(5))), 0)

    def test_chains_begin_with_the_polynomial_and_its_slope(self):
        for one in SOME:
            found = chain(one)
            self.assertIsInstance(found, tuple)
            self.assertEqual(found[0], one)
            self.assertEqual(found[1], slope_of(Q, one))

    def test_chains_go_on_with_turned_remainders(self):
        for one in SOME[1:]:
            found = chain(one)
            for place in range(2, len(found)):
                rest = poly_divided(Q, found[place - 2], found[place - 1])[1]
                self.assertEqual(monic_of(Q, rest), monic_of(Q, found[place]))
                self.assertLess(rest[-1][0] * found[place][-1][0], 0)
                self.assertEqual({below for above, below in found[place]}, {1})
            self.assertEqual(poly_divided(Q, found[-2], found[-1])[1], ())
        self.assertEqual(chain(TWO), (TWO, fractions(0, 2), fractions(1)))
        self.assertEqual(chain(fractions(0, -6, 0, 4))[2:], (fractions(0, 1), fractions(1)))

    def test_changes(self):
        self.assertEqual(changes([]), 0)
        self.assertEqual(changes([1, 0, -1]), 1)
        self.assertEqual(changes((1, -1, 0, 0, 1, 1, 0)), 2)
        self.assertEqual(changes((0, 0)), 0)
        self.assertEqual(changes((1, 0, 1)), 0)

    def test_counts_without_bounds(self):
        counts = [count_roots(one) for one in SOME]
        self.assertEqual(counts, [0, 1, 0, 2, 2, 1, 4, 2, 4, 5, 3, 3, 3, 3])

    def test_bounds_above_the_low_and_not_above_the_high(self):
        one = product_of(with_roots(1, 1, 2, 3), TWO)
        for low in (None, -2, 0, 1, Fraction(3, 2), 2, 3, 4):
            for high in (None, -2, 0, 1, Fraction(3, 2), 2, 3, 4):
                roots = [1, 2, 3, -1.41421, 1.41421]
                fits = [k for k in roots if (low is None or k > low) and (high is None or k <= high)]
                low_pair = None if low is None else pair(low)
                high_pair = None if high is None else pair(high)
                self.assertEqual(count_roots(one, low_pair, high_pair), len(fits), (low, high))
        self.assertEqual(count_roots(one, low=(0, 1)), 4)
        self.assertEqual(count_roots(one, high=(0, 1)), 1)

    def test_0(self):
        for call in (lambda: count_roots(()), lambda: count_roots((), (0, 1), (1, 1)), lambda: real_roots(())):
            with self.assertRaises(PolyError):
                call()
        with self.assertRaises(PolyError):
            rational_roots(())

    def test_bounds_of_all_roots(self):
        for one in SOME:
            bound = root_bound(one)
            self.assertEqual(bound[1], 1)
            for root in real_roots(one):
                self.assertTrue(-bound[0] <= Fraction(*root.low) and Fraction(*root.high) <= bound[0])
            self.assertEqual(count_roots(one, bound), 0)
            self.assertEqual(count_roots(one, None, (-bound[0], 1)), 0)
        self.assertGreater(root_bound(fractions(10 ** 30, 0, 1))[0], 10 ** 15)
        self.assertGreater(root_bound(with_roots(-100, 5))[0], 100)
        self.assertGreater(root_bound(fractions(0, 1))[0], 0)


class RealRootTest(unittest.TestCase):
    def test_bounds_hold_one_root_each_and_ascend(self):
        for one in SOME:
            found = real_roots(one)
            self.assertIsInstance(found, tuple)
            self.assertEqual(len(found), count_roots(one))
            last = None
            for root in found:
                low, high = Fraction(*root.low), Fraction(*root.high)
                if root.is_exact():
                    self.assertEqual(value(one, low), 0)
                    self.assertEqual(low, high)
                else:
                    self.assertEqual(count_roots(one, root.low, root.high), 1)
                    self.assertEqual(count_roots(root.poly, root.low, root.high), 1)
                    self.assertLess(low, high)
                if last is not None:
                    self.assertEqual(compare_roots(last, root), -1)
                last = root

    def test_fractions_are_told_exactly(self):
        one = product_of(with_roots(Fraction(1, 3), Fraction(-22, 7), 5, 5), TWO, fractions(1, 0, 1))
        exact = [root.low for root in real_roots(one) if root.is_exact()]
        self.assertEqual(exact, [(-22, 7), (1, 3), (5, 1)])
        self.assertEqual([root.low == root.high for root in real_roots(one)], [True, False, True, False, True])
        close = Fraction(141421356237, 10 ** 11)
        found = real_roots(product_of(TWO, with_roots(close)))
        self.assertEqual([root.is_exact() for root in found], [False, True, False])
        self.assertEqual(found[1].low, pair(close))

    def test_fraction_roots(self):
        one = with_roots(3, Fraction(1, 2), Fraction(1, 3), -4)
        self.assertEqual(rational_roots(one), ((-4, 1), (1, 3), (1, 2), (3, 1)))
        self.assertEqual(rational_roots(product_of(with_roots(1, 1), TWO)), ((1, 1),))
        self.assertEqual(rational_roots(TWO), ())
        self.assertEqual(rational_roots(fractions(7)), ())
        self.assertEqual(rational_roots(fractions(0, 0, 1)), ((0, 1),))
        one = scaled(Q, with_roots(Fraction(2, 10 ** 12 + 39)), (5, 3))
        self.assertEqual(rational_roots(one), ((2, 10 ** 12 + 39),))

    def test_no_real_roots(self):
        self.assertEqual(real_roots(fractions(1, 0, 1)), ())
        self.assertEqual(real_roots(fractions(3)), ())

    def test_chebyshev_roots(self):
        before, one = fractions(1), fractions(0, 1)
        for _ in range(13):
            before, one = one, poly_plus(Q, poly_times(Q, fractions(0, 2), one), scaled(Q, before, (-1, 1)))
        found = real_roots(one)
        self.assertEqual(len(found), 14)
        self.assertTrue(all(-1 < Fraction(*root.within((1, 100)).low) < 1 for root in found))


class RootTest(unittest.TestCase):
    def setUp(self):
        self.low, self.high = real_roots(TWO)

    def test_fields(self):
        root = Root(TWO, (1, 1), (2, 1))
        self.assertEqual((root.poly, root.low, root.high, root.rows), (TWO, (1, 1), (2, 1), chain(TWO)))
        self.assertEqual(root.shown(), ((-2, 0, 1), (1, 1), (2, 1)))
        self.assertEqual(Root(((-1, 1), (0, 1), (1, 2)), (1, 1), (2, 1)).shown(), ((-2, 0, 1), (1, 1), (2, 1)))
        self.assertFalse(root.is_exact())
        self.assertTrue(Root(with_roots(3), (3, 1), (3, 1)).is_exact())
        self.assertEqual(Root(TWO, (1, 1), (2, 1), chain(TWO)).rows, chain(TWO))

    def test_halving_keeps_the_root(self):
        root = Root(TWO, (1, 1), (2, 1)).halved()
        self.assertEqual((root.low, root.high), ((1, 1), (3, 2)))
        root = root.halved()
        self.assertEqual((root.low, root.high), ((5, 4), (3, 2)))
        # The low bound is a root itself, which is not the one that is meant.
        both = with_roots(0, 3)
        root = Root(both, (0, 1), (4, 1)).halved()
        self.assertEqual((root.low, root.high), ((2, 1), (4, 1)))
        root = Root(both, (0, 1), (8, 1)).halved()
        self.assertEqual((root.low, root.high), ((0, 1), (4, 1)))

    def test_halving_tells_the_middle_if_it_is_the_root(self):
        root = Root(with_roots(3), (2, 1), (4, 1)).halved()
        self.assertEqual((root.low, root.high), ((3, 1), (3, 1)))
        self.assertEqual(root.halved().low, (3, 1))
        # A root that is the high bound is kept.
        root = Root(with_roots(3), (1, 1), (3, 1))
        for _ in range(5):
            root = root.halved()
            self.assertEqual(root.high, (3, 1))
            self.assertLess(Fraction(*root.low), 3)

    def test_within(self):
        for size in ((1, 1), (1, 10 ** 20), (3, 7)):
            root = self.high.within(size)
            self.assertLessEqual(Fraction(*root.high) - Fraction(*root.low), Fraction(*size))
            self.assertLess(Fraction(*root.low) ** 2, 2)
            self.assertGreater(Fraction(*root.high) ** 2, 2)
        self.assertEqual(Root(with_roots(3), (3, 1), (3, 1)).within((1, 5)).low, (3, 1))
        for size in ((0, 1), (-1, 2)):
            with self.assertRaises(PolyError):
                self.high.within(size)
            with self.assertRaises(PolyError):
                Root(with_roots(3), (3, 1), (3, 1)).within(size)

    def test_comparing(self):
        self.assertEqual(compare_roots(self.low, self.high), -1)
        self.assertEqual(compare_roots(self.high, self.low), 1)
        other = real_roots(product_of(TWO, fractions(-3, 0, 1), with_roots(0)))
        self.assertEqual([compare_roots(self.high, root) for root in other], [1, 1, 1, 0, -1])
        self.assertEqual([compare_roots(root, self.high) for root in other], [-1, -1, -1, 0, 1])
        four = real_roots(fractions(4, 0, -5, 0, 1))
        self.assertEqual([compare_roots(self.high, root) for root in four], [1, 1, 1, -1])
        self.assertEqual(compare_roots(four[3], Root(with_roots(2), (1, 1), (5, 1))), 0)
        self.assertEqual(compare_roots(Root(with_roots(2), (1, 1), (2, 1)), four[3]), 0)
        self.assertEqual(compare_roots(four[3], four[3]), 0)

    def test_roots_that_are_very_near(self):
        near = Fraction(14142135623730950488, 10 ** 19)
        exact = real_roots(with_roots(near))[0]
        self.assertEqual(compare_roots(exact, self.high), -1)
        self.assertEqual(compare_roots(self.high, exact), 1)
        wide = Root(with_roots(near), (1, 1), (2, 1))
        self.assertEqual(compare_roots(wide, self.high), -1)

    def test_all_roots_in_order(self):
        rows = [root for one in SOME for root in real_roots(one)]
        told = [Fraction(*root.within((1, 10 ** 18)).low) for root in rows]
        ordered = sorted(rows, key=cmp_to_key(compare_roots))
        values = [Fraction(*root.within((1, 10 ** 18)).low) for root in ordered]
        for left, right in zip(values, sorted(told)):
            self.assertLess(abs(left - right), Fraction(1, 10 ** 15))

    def test_signs_at_roots(self):
        self.assertEqual(sign_at(TWO, self.high), 0)
        self.assertEqual(sign_at(product_of(TWO, fractions(1, 1)), self.low), 0)
        self.assertEqual(sign_at(fractions(-3, 0, 1), self.high), -1)
        self.assertEqual(sign_at(fractions(-1, 1), self.high), 1)
        self.assertEqual(sign_at(fractions(-1, 1), self.low), -1)
        self.assertEqual(sign_at(fractions(5), self.low), 1)
        self.assertEqual(sign_at(fractions(-5), self.low), -1)
        self.assertEqual(sign_at((), self.low), 0)
        near = Fraction(14142135623730950488, 10 ** 19)
        self.assertEqual(sign_at(with_roots(near), self.high), 1)
        self.assertEqual(sign_at(product_of(with_roots(near), with_roots(near)), self.high), 1)
        three = Root(with_roots(3), (3, 1), (3, 1))
        self.assertEqual([sign_at(one, three) for one in (with_roots(3), with_roots(4), TWO)], [0, -1, 1])


if __name__ == "__main__":
    unittest.main()
