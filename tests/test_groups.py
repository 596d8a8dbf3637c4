import unittest
from itertools import permutations
from math import factorial
from unittest.mock import patch

from algebrastack import groups
from algebrastack.errors import MatrixError, SolveError
from algebrastack.groups import (
    Group,
    after,
    arrangements,
    cycles,
    from_cycles,
    is_permutation,
    order_of_permutation,
    parity,
    symmetries,
    undone,
)


def closed(generators, many):
    """Return all products of permutations, by trying."""
    found = {tuple(range(many))}
    fresh = list(found)
    while fresh:
        one = fresh.pop()
        for other in generators:
            more = tuple([other[place] for place in one])
            if more not in found:
                found.add(more)
                fresh.append(more)
    return found


SOME = (
    ((), 3),
    (((1, 2, 3, 0),), 4),
    (((1, 2, 3, 0), (1, 0, 3, 2)), 4),
    (((1, 0, 2, 3), (0, 1, 3, 2)), 4),
    (((1, 2, 0, 4, 3),), 5),
    (((1, 2, 0, 3, 4), (0, 1, 3, 4, 2)), 5),
    (((1, 2, 3, 4, 5, 0), (5, 4, 3, 2, 1, 0)), 6),
    (((1, 0, 3, 2, 5, 4), (0, 2, 4, 1, 3, 5)), 6),
    (((0,),), 1),
    (((0, 2, 4, 6, 1, 3, 5), (1, 2, 3, 4, 5, 6, 0)), 7),
)


class PermutationTest(unittest.TestCase):
    def test_is_permutation(self):
        for one in ((0,), (1, 0), (2, 0, 1), (0, 1, 2, 3)):
            self.assertTrue(is_permutation(one))
        for one in ((1,), (0, 0), (1, 2), (0, 2), (-1, 0), (0, 1, 1)):
            self.assertFalse(is_permutation(one))

    def test_after_does_the_first_one_first(self):
        self.assertEqual(after((1, 2, 0), (1, 0, 2)), (0, 2, 1))
        self.assertEqual(after((1, 0, 2), (1, 2, 0)), (2, 1, 0))
        for one in permutations(range(4)):
            for other in permutations(range(4)):
                both = after(one, other)
                self.assertEqual([both[place] for place in range(4)], [other[one[place]] for place in range(4)])

    def test_undone(self):
        for one in permutations(range(5)):
            self.assertEqual(after(one, undone(one)), (0, 1, 2, 3, 4))
            self.assertEqual(after(undone(one), one), (0, 1, 2, 3, 4))
        self.assertEqual(undone((1, 2, 0)), (2, 0, 1))

    def test_cycles(self):
        self.assertEqual(cycles((0, 1, 2)), ())
        self.assertEqual(cycles((1, 2, 0)), ((0, 1, 2),))
        self.assertEqual(cycles((2, 1, 0, 5, 3, 4)), ((0, 2), (3, 5, 4)))
        self.assertEqual(cycles((0, 4, 3, 2, 1)), ((1, 4), (2, 3)))
        for one in permutations(range(5)):
            self.assertEqual(from_cycles(cycles(one), 5), one)

    def test_from_cycles(self):
        self.assertEqual(from_cycles((), 3), (0, 1, 2))
        self.assertEqual(from_cycles(((2, 0, 1),), 4), (1, 2, 0, 3))
        self.assertEqual(from_cycles([(3,), (0, 2)], 4), (2, 1, 0, 3))
        for rows in (((0, 0),), ((0, 1), (1, 2)), ((0, 3),), ((-1, 0),), ((0,), (0, 1))):
            with self.assertRaises(SolveError):
                from_cycles(rows, 3)

    def test_orders_and_parities(self):
        for one in permutations(range(5)):
            found, many = one, 1
            while found != (0, 1, 2, 3, 4):
                found, many = after(found, one), many + 1
            self.assertEqual(order_of_permutation(one), many)
            turns = sum(1 for place in range(5) for step in range(place) if one[step] > one[place])
            self.assertEqual(parity(one), -1 if turns % 2 == 1 else 1)
        self.assertEqual(order_of_permutation((1, 0, 3, 4, 2)), 6)
        self.assertEqual(order_of_permutation((0,)), 1)
        self.assertEqual((parity((1, 0)), parity((0, 1))), (-1, 1))

    def test_arrangements(self):
        found = arrangements([1, 2, 3])
        self.assertIsInstance(found, list)
        self.assertEqual(sorted(found), sorted(permutations((1, 2, 3))))
        self.assertEqual(arrangements([]), [()])
        self.assertEqual(arrangements(("a",)), [("a",)])


class GroupTest(unittest.TestCase):
    def test_all_of_small_groups(self):
        for generators, many in SOME:
            group, plain = Group(generators, many), closed(generators, many)
            self.assertEqual((group.many, group.generators), (many, generators))
            self.assertEqual(group.count_all(), len(plain))
            self.assertEqual(group.all_elements(), tuple(sorted(plain)))
            for one in permutations(range(many)):
                self.assertEqual(group.has(one), one in plain)

    def test_tables_of_where_places_go(self):
        for generators, many in SOME:
            group, plain = Group(generators, many), closed(generators, many)
            self.assertEqual(len(group.stay), many)
            for place in range(many):
                table = group.stay[place]
                left = [one for one in plain if one[:place] == tuple(range(place))]
                self.assertEqual(sorted(table), sorted({one[place] for one in left}))
                for aim, one in table.items():
                    self.assertIn(one, left)
                    self.assertEqual(one[place], aim)

    def test_great_groups(self):
        turn, exchange = tuple(range(1, 12)) + (0,), (1, 0) + tuple(range(2, 12))
        whole = Group([turn, exchange], 12)
        self.assertEqual(whole.count_all(), factorial(12))
        self.assertTrue(whole.has(tuple(range(11, -1, -1))))
        even = Group([from_cycles([(0, 1, place)], 12) for place in range(2, 12)], 12)
        self.assertEqual(even.count_all(), factorial(12) // 2)
        self.assertFalse(even.has(exchange))
        mathieu = Group([from_cycles([tuple(range(11))], 11), from_cycles([(2, 6, 10, 7), (3, 9, 4, 5)], 11)], 11)
        self.assertEqual(mathieu.count_all(), 7920)
        self.assertEqual(mathieu.stabilizer(4).count_all(), 720)
        for group in (whole, even, mathieu):
            with self.assertRaises(SolveError):
                group.all_elements()

    def test_groups_of_ten_and_twelve_places(self):
        rest = tuple(range(5, 12))
        turn, exchange = tuple(range(1, 12)) + (0,), (1, 0) + tuple(range(2, 12))
        for generators, many, size, members, others in (
            ((turn, exchange), 12, 479001600, ((11, 10, 9, 8, 7, 6, 5, 4, 3, 2, 1, 0), (2, 1, 0) + tuple(range(3, 12))), ()),
            ((turn[:9] + (0,), exchange[:10]), 10, 3628800, ((9, 8, 7, 6, 5, 4, 3, 2, 1, 0), exchange[:10]), (exchange,)),
            ((turn,), 12, 12, ((3, 4, 5, 6, 7, 8, 9, 10, 11, 0, 1, 2),), (exchange, (2, 1) + turn[2:])),
            (
                ((1, 2, 0) + tuple(range(3, 12)), (0,) + tuple(range(2, 12)) + (1,)), 12, 239500800,
                ((1, 0, 3, 2) + tuple(range(4, 12)), (0, 1, 2, 3, 4, 5, 6, 7, 8, 10, 11, 9)),
                (exchange, turn, (1, 0, 3, 2, 5, 4) + tuple(range(6, 12))),
            ),
            (
                (exchange, (1, 2, 3, 4, 0) + rest, (0, 1, 2, 3, 4, 6, 5) + rest[2:], (0, 1, 2, 3, 4) + rest[1:] + rest[:1]),
                12, 604800, (exchange, (4, 3, 2, 1, 0) + rest[::-1]), (turn, (5, 1, 2, 3, 4, 0) + rest[1:]),
            ),
        ):
            group = Group(generators, many)
            self.assertEqual(group.count_all(), size)
            self.assertEqual(len(group.stay), many)
            for one in members + generators:
                self.assertTrue(group.has(one))
                self.assertTrue(group.has(undone(one)))
                self.assertTrue(group.has(after(one, generators[0])))
            for one in others:
                self.assertFalse(group.has(one))
            for place, table in enumerate(group.stay):
                for aim, one in table.items():
                    self.assertEqual((one[:place], one[place]), (tuple(range(place)), aim))

    def test_few_products_make_a_group(self):
        turn, exchange = tuple(range(1, 12)) + (0,), (1, 0) + tuple(range(2, 12))
        wreath = ([(0, 1)], [(0, 1, 2)], [(0, 3), (1, 4), (2, 5)], [(0, 3, 6, 9), (1, 4, 7, 10), (2, 5, 8, 11)])
        for generators, size, most in (
            ((turn, exchange), 479001600, 1000),
            ((turn,), 12, 40),
            ([from_cycles(row, 12) for row in wreath], 31104, 1000),
        ):
            many = []

            def counted(one, other):
                many.append(True)
                return after(one, other)

            with patch.object(groups, "after", counted):
                self.assertEqual(Group(generators, 12).count_all(), size)
            self.assertLess(len(many), most)

    def test_groups_of_blocks(self):
        # Those that take blocks of places to blocks: the blocks' own groups, and that of how they are exchanged.
        for size, many in ((2, 6), (3, 4), (4, 3), (6, 2)):
            places = size * many
            rows = [[(0, 1)], [tuple(range(size))], [(place, place + size) for place in range(size)]]
            rows.append([tuple(range(place, places, size)) for place in range(size)])
            group = Group([from_cycles(row, places) for row in rows], places)
            self.assertEqual(group.count_all(), factorial(size) ** many * factorial(many))
            self.assertEqual(group.orbits(), (tuple(range(places)),))
            self.assertEqual(group.stabilizer(1).count_all() * places, group.count_all())
            self.assertFalse(group.has((0, size) + tuple(range(2, size)) + (1,) + tuple(range(size + 1, places))))

    def test_5000_elements(self):
        self.assertEqual(len(Group([(1, 2, 3, 4, 5, 0), (1, 0, 2, 3, 4, 5)], 6).all_elements()), 720)
        with self.assertRaises(SolveError):
            Group([(1, 2, 3, 4, 5, 6, 0), (1, 0, 2, 3, 4, 5, 6)], 7).all_elements()
        rows = [[(0, 1, 2, 3, 4)], [(0, 1)], [(5, 6, 7, 8)], [(5, 6)]]
        group = Group([from_cycles(row, 9) for row in rows], 9)
        self.assertEqual(group.count_all(), 2880)
        self.assertEqual(len(group.all_elements()), 2880)

    def test_has_other_tuples(self):
        group = Group([(1, 0, 2)], 3)
        for one in ((1, 0), (1, 0, 2, 3), (0, 0, 1), (0, 1, 3), ()):
            self.assertFalse(group.has(one))

    def test_orbits(self):
        group = Group([(1, 0, 3, 2, 4), (0, 1, 3, 2, 4)], 5)
        self.assertEqual(group.orbits(), ((0, 1), (2, 3), (4,)))
        self.assertEqual(group.orbit(3), (2, 3))
        self.assertEqual(Group((), 3).orbits(), ((0,), (1,), (2,)))
        for generators, many in SOME:
            plain = closed(generators, many)
            for place in range(many):
                self.assertEqual(Group(generators, many).orbit(place), tuple(sorted({one[place] for one in plain})))
            for place in (-1, many):
                with self.assertRaises(SolveError):
                    Group(generators, many).orbit(place)

    def test_is_commutative(self):
        for generators, many in SOME:
            plain = closed(generators, many)
            same = all(after(one, other) == after(other, one) for one in plain for other in plain)
            self.assertEqual(Group(generators, many).is_commutative(), same)

    def test_stabilizers(self):
        for generators, many in SOME:
            plain = closed(generators, many)
            for place in range(many):
                found = Group(generators, many).stabilizer(place)
                self.assertIsInstance(found, Group)
                self.assertEqual(found.many, many)
                self.assertEqual(set(found.all_elements()), {one for one in plain if one[place] == place})

    def test_errors(self):
        for generators, many in (
            ((), 0), ((), -1), ((), 13), ((tuple(range(13)),), 13), (((0, 1),), 3), (((0, 1, 2),), 2),
            (((0, 0),), 2), (((1, 0), (1, 2)), 2), (((),), 1),
        ):
            with self.assertRaises(MatrixError):
                Group(generators, many)
        self.assertEqual(Group((), 12).count_all(), 1)
        self.assertEqual(Group((), 1).all_elements(), ((0,),))


class SymmetryTest(unittest.TestCase):
    def test_symmetries_of_pairs(self):
        for count, pairs, many in (
            (1, (), 1),
            (3, (), 6),
            (7, (), 5040),
            (4, ((0, 1), (1, 2), (2, 3), (3, 0)), 8),
            (5, ((0, 1), (1, 2), (2, 3), (3, 4)), 2),
            (4, ((0, 1), (0, 2), (0, 3)), 6),
            (4, ((0, 1), (2, 3)), 8),
            (3, ((0, 1),), 2),
            (6, ((0, 1), (1, 2), (2, 0), (3, 4), (4, 5), (5, 3)), 72),
        ):
            group = symmetries(count, pairs)
            self.assertIsInstance(group, Group)
            self.assertEqual((group.many, group.count_all()), (count, many))
            whole = {frozenset(pair) for pair in pairs}
            for one in permutations(range(count)):
                moved = {frozenset((one[left], one[right])) for left, right in pairs}
                self.assertEqual(group.has(one), moved == whole)

    def test_pairs_are_the_same_either_way_round_and_told_once(self):
        plain = symmetries(3, ((0, 1), (1, 2))).all_elements()
        self.assertEqual(plain, ((0, 1, 2), (2, 1, 0)))
        self.assertEqual(symmetries(3, ((1, 0), (1, 2))).all_elements(), plain)
        self.assertEqual(symmetries(3, ((0, 1), (1, 0), (2, 1), (1, 2))).all_elements(), plain)

    def test_a_pair_of_a_place_with_itself(self):
        self.assertEqual(symmetries(3, ((1, 1),)).all_elements(), ((0, 1, 2), (2, 1, 0)))

    def test_errors(self):
        for count, pairs in ((0, ()), (8, ()), (-1, ()), (3, ((0, 3),)), (3, ((-1, 0),)), (1, ((0, 1),))):
            with self.assertRaises(SolveError):
                symmetries(count, pairs)


if __name__ == "__main__":
    unittest.main()
