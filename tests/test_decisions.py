import unittest
from itertools import product

from algebrastack.decisions import NO, YES, Diagrams
from algebrastack.errors import TextError

NAMES = ("a", "b", "c", "d")


def rows_of(names=NAMES):
    return [dict(zip(names, row)) for row in product((False, True), repeat=len(names))]


def truths_of(diagrams, node):
    return [diagrams.value(node, row) for row in rows_of(diagrams.names)]


def some_nodes(diagrams):
    """Return nodes of many kinds, in the order in which they are made."""
    a, b, c, d = [diagrams.name(name) for name in NAMES]
    found = [NO, YES, a, b, c, d, diagrams.opposite(a), diagrams.both(a, b), diagrams.either(b, d)]
    found.append(diagrams.chosen(a, b, c))
    found.append(diagrams.chosen(a, diagrams.opposite(d), d))
    found.append(diagrams.either(diagrams.both(a, b), diagrams.both(c, d)))
    found.append(diagrams.chosen(c, found[-1], diagrams.opposite(b)))
    found.append(diagrams.both(diagrams.opposite(a), diagrams.opposite(d)))
    return found


def filled_to(most):
    """Return diagrams of 14 names with so many nodes, or more by less than ten."""
    diagrams = Diagrams([f"n{place:02}" for place in range(14)])
    names = [diagrams.name(name) for name in diagrams.names]
    number = 0
    while len(diagrams.nodes) < most:
        # Each number's digits make one row of truths, which asks its own questions.
        node = YES
        for place in reversed(range(14)):
            own = names[place] if number >> (13 - place) & 1 else diagrams.opposite(names[place])
            if len(diagrams.nodes) >= most:
                return diagrams
            node = diagrams.both(own, node)
        number += 1
    return diagrams


class NodeTest(unittest.TestCase):
    def test_the_two_last_ones(self):
        diagrams = Diagrams(NAMES)
        self.assertEqual((NO, YES), (0, 1))
        self.assertEqual(diagrams.names, NAMES)
        self.assertEqual(diagrams.nodes, [(4, 0, 0), (4, 1, 1)])
        self.assertEqual((diagrams.place_of(NO), diagrams.place_of(YES)), (4, 4))
        self.assertEqual(Diagrams(()).place_of(YES), 0)

    def test_names(self):
        diagrams = Diagrams(NAMES)
        node = diagrams.name("c")
        self.assertEqual(diagrams.nodes[node], (2, NO, YES))
        self.assertEqual(diagrams.place_of(node), 2)
        self.assertEqual(diagrams.name("c"), node)
        self.assertEqual(len(diagrams.nodes), 3)

    def test_nodes(self):
        diagrams = Diagrams(NAMES)
        a, b = diagrams.name("a"), diagrams.name("b")
        self.assertEqual(diagrams.nodes[diagrams.both(a, b)], (0, NO, b))
        self.assertEqual(diagrams.nodes[diagrams.either(b, a)], (0, b, YES))
        self.assertEqual(diagrams.nodes[diagrams.opposite(b)], (1, YES, NO))
        self.assertEqual(diagrams.nodes[diagrams.chosen(b, a, diagrams.opposite(a))][0], 0)

    def test_the_same_question_is_the_same_node(self):
        diagrams = Diagrams(NAMES)
        a, b, c = [diagrams.name(name) for name in "abc"]
        self.assertEqual(diagrams.both(a, b), diagrams.both(b, a))
        self.assertEqual(
            diagrams.opposite(diagrams.both(a, b)), diagrams.either(diagrams.opposite(b), diagrams.opposite(a))
        )
        self.assertEqual(
            diagrams.both(a, diagrams.either(b, c)), diagrams.either(diagrams.both(a, c), diagrams.both(a, b))
        )
        self.assertEqual(diagrams.both(a, diagrams.opposite(a)), NO)
        self.assertEqual(diagrams.either(a, diagrams.opposite(a)), YES)
        self.assertEqual(len(set(diagrams.nodes)), len(diagrams.nodes))

    def test_questions_stand_in_order_and_are_needed(self):
        diagrams = Diagrams(NAMES)
        some_nodes(diagrams)
        for place, low, high in diagrams.nodes[2:]:
            self.assertNotEqual(low, high)
            self.assertLess(place, min(diagrams.place_of(low), diagrams.place_of(high)))
        self.assertEqual(len(set(diagrams.nodes)), len(diagrams.nodes))

    def test_nodes_are_the_same_just_where_truths_are(self):
        diagrams = Diagrams(NAMES)
        found = {}
        for node in some_nodes(diagrams):
            row = tuple(truths_of(diagrams, node))
            self.assertEqual(found.setdefault(row, node), node)
        self.assertEqual(len(set(found.values())), len(found))


class TruthTest(unittest.TestCase):
    def test_what_nodes_are_made_of(self):
        diagrams = Diagrams(NAMES)
        nodes = some_nodes(diagrams)
        for one in nodes:
            own = truths_of(diagrams, one)
            self.assertEqual(truths_of(diagrams, diagrams.opposite(one)), [not truth for truth in own])
            for other in nodes:
                more = truths_of(diagrams, other)
                self.assertEqual(truths_of(diagrams, diagrams.both(one, other)), [p and q for p, q in zip(own, more)])
                self.assertEqual(truths_of(diagrams, diagrams.either(one, other)), [p or q for p, q in zip(own, more)])
                for third in nodes[::3]:
                    last = truths_of(diagrams, third)
                    self.assertEqual(
                        truths_of(diagrams, diagrams.chosen(one, other, third)),
                        [q if p else r for p, q, r in zip(own, more, last)],
                    )

    def test_value(self):
        diagrams = Diagrams(NAMES)
        node = diagrams.both(diagrams.name("a"), diagrams.name("c"))
        self.assertIs(diagrams.value(node, {"a": True, "c": True}), True)
        self.assertIs(diagrams.value(node, {"a": True, "c": False, "z": True}), False)
        self.assertIs(diagrams.value(node, {"a": False}), False)
        self.assertIs(diagrams.value(YES, {}), True)
        self.assertIs(diagrams.value(NO, {}), False)
        for truths in ({}, {"c": True}, {"a": True}, {"a": True, "b": True}):
            with self.assertRaises(TextError):
                diagrams.value(node, truths)

    def test_count(self):
        diagrams = Diagrams(NAMES)
        self.assertEqual((diagrams.count(NO), diagrams.count(YES)), (0, 16))
        self.assertEqual(diagrams.count(diagrams.name("d")), 8)
        for node in some_nodes(diagrams):
            self.assertEqual(diagrams.count(node), sum(truths_of(diagrams, node)))
        great = Diagrams([str(place) for place in range(30)])
        self.assertEqual(great.count(YES), 2 ** 30)
        self.assertEqual(great.count(great.both(great.name("3"), great.name("29"))), 2 ** 28)
        self.assertEqual(Diagrams(()).count(YES), 1)

    def test_first_truths(self):
        diagrams = Diagrams(NAMES)
        self.assertIsNone(diagrams.first_truths(NO))
        self.assertEqual(diagrams.first_truths(YES), (False, False, False, False))
        self.assertEqual(diagrams.first_truths(diagrams.name("b")), (False, True, False, False))
        for node in some_nodes(diagrams):
            fits = [tuple(row.values()) for row in rows_of() if diagrams.value(node, row)]
            self.assertEqual(diagrams.first_truths(node), min(fits, default=None))
        self.assertEqual(Diagrams(()).first_truths(YES), ())

    def test_with_name_and_some(self):
        diagrams = Diagrams(NAMES)
        for node in some_nodes(diagrams):
            for name in NAMES:
                either = [False] * 16
                for truth in (False, True):
                    plain = [diagrams.value(node, {**row, name: truth}) for row in rows_of()]
                    self.assertEqual(truths_of(diagrams, diagrams.with_name(node, name, truth)), plain)
                    either = [p or q for p, q in zip(either, plain)]
                self.assertEqual(truths_of(diagrams, diagrams.some(node, name)), either)

    def test_used(self):
        diagrams = Diagrams(NAMES)
        self.assertEqual((diagrams.used(NO), diagrams.used(YES)), ((), ()))
        node = diagrams.either(diagrams.name("d"), diagrams.name("b"))
        self.assertEqual(diagrams.used(node), ("b", "d"))
        for node in some_nodes(diagrams):
            plain = []
            for name in NAMES:
                rows = rows_of()
                if any(diagrams.value(node, {**row, name: True}) != diagrams.value(node, {**row, name: False})
                       for row in rows):
                    plain.append(name)
            self.assertEqual(diagrams.used(node), tuple(plain))


class ErrorTest(unittest.TestCase):
    def test_unknown_names(self):
        diagrams = Diagrams(NAMES)
        for call in (
            lambda: diagrams.name("e"),
            lambda: diagrams.name(""),
            lambda: diagrams.with_name(YES, "e", True),
            lambda: diagrams.some(diagrams.name("a"), "e"),
        ):
            with self.assertRaises(TextError):
                call()

    def test_names_told_twice_or_too_many(self):
        for names in (("a", "a"), ("a", "b", "a"), [str(place) for place in range(31)]):
            with self.assertRaises(TextError):
                Diagrams(names)
        great = Diagrams([str(place) for place in range(30)])
        node = YES
        for name in reversed(great.names):
            node = great.both(great.name(name), node)
        self.assertEqual(great.count(node), 1)
        self.assertEqual(great.first_truths(node), (True,) * 30)

    def test_5000_nodes(self):
        diagrams = filled_to(5000)
        self.assertEqual(len(diagrams.nodes), 5000)
        known = diagrams.both(diagrams.name("n00"), diagrams.name("n00"))
        self.assertEqual(diagrams.nodes[known], (0, NO, YES))
        with self.assertRaises(TextError):
            for other in diagrams.names:
                for name in diagrams.names:
                    diagrams.chosen(diagrams.name(name), diagrams.name(other), diagrams.opposite(diagrams.name(other)))
        self.assertEqual(len(diagrams.nodes), 5000)


if __name__ == "__main__":
    unittest.main()
