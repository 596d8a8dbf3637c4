import random
import unittest
from itertools import combinations, permutations, product

from algebrastack.errors import SolveError
from algebrastack.flows import Flow, chains_of, greatest_flow, pairs_of, proves_flow


def least_bound(many, ways, first, last):
    """Return the least width of ways that lead out of a side of the first place, by trying all sides."""
    others = [place for place in range(many) if place not in (first, last)]
    found = []
    for chosen in product((False, True), repeat=len(others)):
        side = {first} | {place for place, there in zip(others, chosen) if there}
        found.append(sum(width for one, other, width in ways if one in side and other not in side))
    return min(found)


def some_ways(chance, many):
    return [
        (chance.randrange(many), chance.randrange(many), chance.randrange(7)) for _ in range(chance.randrange(4 * many))
    ]


class FlowTest(unittest.TestCase):
    def test_known_flows(self):
        for many, ways, first, last, told in (
            (2, [(0, 1, 5)], 0, 1, ((5,), 5, (0,))),
            (2, [(0, 1, 5)], 1, 0, ((0,), 0, (1,))),
            (3, [(0, 1, 4), (1, 2, 3)], 0, 2, ((3, 3), 3, (0, 1))),
            (3, [(0, 1, 3), (1, 2, 4)], 0, 2, ((3, 3), 3, (0,))),
            (2, [], 0, 1, ((), 0, (0,))),
            (3, [(0, 1, 0), (1, 2, 9)], 0, 2, ((0, 0), 0, (0,))),
            (2, [(0, 0, 7), (0, 1, 2), (1, 1, 3)], 0, 1, ((0, 2, 0), 2, (0,))),
            (2, [(0, 1, 2), (0, 1, 3), (1, 0, 4)], 0, 1, ((2, 3, 0), 5, (0,))),
            (4, [(0, 3, 1), (1, 2, 9), (2, 1, 9)], 0, 3, ((1, 0, 0), 1, (0,))),
            (4, [(0, 3, 1), (0, 1, 2)], 0, 3, ((1, 0), 1, (0, 1))),
            # The middle way is not used in the end, though it is the third of a shortest one's.
            (4, [(0, 1, 1), (0, 2, 1), (1, 2, 1), (1, 3, 1), (2, 3, 1)], 0, 3, ((1, 1, 0, 1, 1), 2, (0,))),
        ):
            flow = greatest_flow(many, ways, first, last)
            self.assertIsInstance(flow, Flow)
            self.assertEqual(flow.shown(), told)
            self.assertEqual((flow.amounts, flow.total, flow.side), told)
            self.assertTrue(proves_flow(many, ways, first, last, flow))

    def test_what_was_filled_is_taken_back(self):
        # The one shortest way goes over (1, 4); all that goes on needs this way given back.
        ways = [(0, 1, 1), (1, 4, 1), (4, 5, 1), (0, 2, 1), (2, 3, 1), (3, 4, 1), (1, 6, 1), (6, 7, 1), (7, 5, 1)]
        flow = greatest_flow(8, ways, 0, 5)
        self.assertEqual(flow.shown(), ((1, 0, 1, 1, 1, 1, 1, 1, 1), 2, (0,)))
        self.assertTrue(proves_flow(8, ways, 0, 5, flow))

    def test_totals(self):
        chance = random.Random(3)
        for _ in range(300):
            many = chance.randrange(2, 7)
            ways = some_ways(chance, many)
            first, last = chance.sample(range(many), 2)
            flow = greatest_flow(many, ways, first, last)
            self.assertEqual(flow.total, least_bound(many, ways, first, last))
            self.assertEqual(flow.side, tuple(sorted(flow.side)))
            self.assertTrue(proves_flow(many, ways, first, last, flow))

    def test_sixty_places(self):
        ways = [(place, place + step, 10 ** 9 + place) for place in range(60) for step in (1, 2) if place + step < 60]
        flow = greatest_flow(60, ways, 0, 59)
        self.assertEqual(flow.total, 2 * 10 ** 9)
        self.assertTrue(proves_flow(60, ways, 0, 59, flow))

    def test_errors(self):
        for many, ways, first, last in (
            (0, [], 0, 1),
            (-1, [], 0, 1),
            (61, [], 0, 1),
            (3, [], 1, 1),
            (3, [], 0, 3),
            (3, [], -1, 2),
            (3, [], 3, 0),
            (3, [], 0, -1),
            (3, [(0, 3, 1)], 0, 1),
            (3, [(3, 0, 1)], 0, 1),
            (3, [(-1, 0, 1)], 0, 1),
            (3, [(0, -1, 1)], 0, 1),
            (3, [(0, 1, 1), (0, 1, -1)], 0, 1),
            (1, [], 0, 0),
        ):
            with self.assertRaises(SolveError):
                greatest_flow(many, ways, first, last)


class ProofTest(unittest.TestCase):
    def test_bent_flows(self):
        ways = [(0, 1, 4), (1, 2, 3), (0, 2, 2), (2, 2, 5), (1, 0, 6)]
        self.assertEqual(greatest_flow(3, ways, 0, 2).shown(), ((3, 3, 2, 0, 0), 5, (0, 1)))
        for amounts, total, side in (
            ((3, 3, 2, 5, 0), 5, (0, 1)),
            ((4, 3, 2, 0, 1), 5, (0, 1)),
            ((3, 3, 2, 0, 0), 5, (1, 0)),
        ):
            self.assertIs(proves_flow(3, ways, 0, 2, Flow(amounts, total, side)), True)
        for amounts, total, side in (
            ((3, 3, 2, 0, 0), 4, (0, 1)),
            ((3, 3, 2, 0, 0), 6, (0, 1)),
            ((3, 3, 2, 0, 0), 6, (0,)),
            ((3, 3, 2, 0, 0), 5, (0,)),
            ((3, 3, 2, 0, 0), 5, ()),
            ((3, 3, 2, 0, 0), 5, (1,)),
            ((3, 3, 2, 0, 0), 5, (0, 1, 2)),
            ((3, 3, 2, 0, 0), 5, (0, 1, 3)),
            ((3, 3, 2, 0, 0), 5, (0, 1, -1)),
            ((2, 2, 2, 0, 0), 4, (0, 1)),
            ((2, 3, 2, 0, 0), 5, (0, 1)),
            ((4, 3, 2, 0, 0), 5, (0, 1)),
            ((4, 4, 2, 0, 0), 6, (0, 1)),
            ((3, 3, 3, 0, 0), 6, (0, 1)),
            ((3, 3, 2, 0, -1), 5, (0, 1)),
            ((3, 3, 2, -1, 0), 5, (0, 1)),
            ((3, 3, 2, 6, 0), 5, (0, 1)),
            ((3, 3, 2, 0), 5, (0, 1)),
            ((3, 3, 2, 0, 0, 0), 5, (0, 1)),
            ((0, 0, 0, 0, 0), 0, (0, 1)),
            ((), 0, (0,)),
        ):
            self.assertIs(proves_flow(3, ways, 0, 2, Flow(amounts, total, side)), False, (amounts, total, side))

    def test_other_places(self):
        ways = [(0, 1, 4), (1, 2, 3)]
        flow = greatest_flow(3, ways, 0, 2)
        for first, last in ((0, 0), (2, 0), (1, 2), (0, 1), (0, 5)):
            self.assertIs(proves_flow(3, ways, first, last, flow), False)
        self.assertIs(proves_flow(3, [(0, 1, 4), (1, 7, 3)], 0, 2, flow), False)


class PairsTest(unittest.TestCase):
    def assert_pairs(self, left, right, fits):
        pairs, cover = pairs_of(left, right, fits)
        self.assertEqual(pairs, tuple(sorted(pairs)))
        self.assertTrue(all(pair in list(map(tuple, fits)) for pair in pairs))
        self.assertEqual(len({one for one, _ in pairs}), len(pairs))
        self.assertEqual(len({other for _, other in pairs}), len(pairs))
        self.assertEqual(len(set(cover)), len(pairs))
        self.assertTrue(all(("left", one) in cover or ("right", other) in cover for one, other in fits))

    def test_pairs(self):
        self.assertEqual(pairs_of(2, 2, [(0, 0), (0, 1), (1, 0)])[0], ((0, 1), (1, 0)))
        self.assertEqual(pairs_of(1, 3, [(0, 2)]), (((0, 2),), (("left", 0),)))
        self.assertEqual(pairs_of(3, 1, [(0, 0), (1, 0), (2, 0)])[1], (("right", 0),))
        self.assertEqual(pairs_of(2, 3, []), ((), ()))
        self.assertEqual(pairs_of(0, 0, []), ((), ()))
        self.assertEqual(pairs_of(2, 0, []), ((), ()))
        chance = random.Random(5)
        for _ in range(200):
            left, right = chance.randrange(7), chance.randrange(7)
            rows = [row for row in product(range(left), range(right)) if chance.random() < 0.3]
            self.assert_pairs(left, right, rows)
            self.assert_pairs(left, right, rows + rows[::-1])

    def test_limits(self):
        self.assert_pairs(29, 29, [(one, other) for one in range(29) for other in range(29) if one + other > 28])
        for left, right, fits in (
            (30, 29, []), (29, 30, []), (2, 2, [(2, 0)]), (2, 2, [(0, 2)]), (2, 2, [(-1, 0)]), (2, 2, [(0, -1)]),
            (-1, 2, []), (2, -1, []),
        ):
            with self.assertRaises(SolveError):
                pairs_of(left, right, fits)


def plain_order(many, fits):
    """Return the whole order of what fits, with all that follows of it."""
    rows = set(fits)
    for middle, one, other in product(range(many), repeat=3):
        if (one, middle) in rows and (middle, other) in rows:
            rows.add((one, other))
    return sorted(rows)


class ChainsTest(unittest.TestCase):
    def assert_chains(self, many, below):
        chains, apart = chains_of(many, below)
        self.assertEqual(sorted(number for row in chains for number in row), list(range(many)))
        for row in chains:
            self.assertTrue(all((one, other) in below for one, other in zip(row, row[1:])))
        self.assertEqual(len(chains), len(apart))
        self.assertEqual(apart, tuple(sorted(set(apart))))
        self.assertTrue(all(pair not in below for pair in permutations(apart, 2)))

    def test_chains(self):
        self.assertEqual(chains_of(0, []), ((), ()))
        self.assertEqual(chains_of(3, []), (((0,), (1,), (2,)), (0, 1, 2)))
        self.assertEqual(chains_of(3, [(2, 1), (1, 0), (2, 0)])[0], ((2, 1, 0),))
        self.assertEqual(len(chains_of(3, [(2, 1), (1, 0), (2, 0)])[1]), 1)
        self.assert_chains(4, [(0, 2), (0, 3), (1, 2), (1, 3)])
        chance = random.Random(9)
        for _ in range(150):
            many = chance.randrange(1, 9)
            names = chance.sample(range(many), many)
            fits = [(names[one], names[other]) for one, other in combinations(range(many), 2) if chance.random() < 0.25]
            self.assert_chains(many, plain_order(many, fits))

    def test_29_numbers(self):
        divided = [(one, other) for one in range(29) for other in range(29) if one != other and (other + 1) % (one + 1) == 0]
        self.assert_chains(29, divided)
        self.assertEqual(len(chains_of(29, divided)[1]), 15)
        self.assertEqual(chains_of(29, list(combinations(range(29), 2)))[0], (tuple(range(29)),))
        with self.assertRaises(SolveError):
            chains_of(30, [])

    def test_what_is_no_order(self):
        for many, below in (
            (2, [(0, 0)]),
            (2, [(0, 1), (1, 0)]),
            (3, [(0, 1), (1, 2)]),
            (4, [(0, 1), (1, 2), (0, 2), (2, 3), (1, 3)]),
            (3, [(0, 1), (1, 2), (2, 0)]),
            (2, [(0, 2)]),
            (2, [(-1, 0)]),
        ):
            with self.assertRaises(SolveError):
                chains_of(many, below)


if __name__ == "__main__":
    unittest.main()
