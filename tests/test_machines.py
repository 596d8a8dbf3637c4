import random
import re
import unittest
from itertools import product

from algebrastack.errors import TextError
from algebrastack.machines import (
    Machine,
    behind,
    difference_word,
    has_empty,
    machine_of,
    parse_pattern,
    signs_in,
)

A, B, C = ("sign", "a"), ("sign", "b"), ("sign", "c")
EMPTY, NONE = ("empty",), ("none",)


def words(signs, most):
    return ["".join(row) for length in range(most + 1) for row in product(signs, repeat=length)]


def of_text(text, signs="ab"):
    return machine_of(parse_pattern(text), signs)


def told_as(text):
    """Return the same pattern for Python's own expressions."""
    return re.compile(text.replace("()", "(?:)").replace("~", "(?!)"))


def some_texts():
    """Return texts of many forms, by a chance that is always the same."""
    chance = random.Random(11)

    def made(depth):
        if depth == 0:
            return chance.choice(("a", "b", "a", "b", "()", "~"))
        form = chance.choice("rrreeemm")
        if form == "r":
            return made(depth - 1) + made(depth - 1)
        return f"({made(depth - 1)}|{made(depth - 1)})" if form == "e" else f"({made(depth - 1)})*"

    return [text for text in [made(chance.randrange(5)) for _ in range(250)] if len(text) <= 100]


class PatternTest(unittest.TestCase):
    def test_texts(self):
        for text, pattern in (
            ("a", A),
            ("7", ("sign", "7")),
            ("~", NONE),
            ("()", EMPTY),
            ("", EMPTY),
            ("ab", ("row", A, B)),
            ("a|b", ("either", A, B)),
            ("a*", ("many", A)),
            ("ab*", ("row", A, ("many", B))),
            ("(ab)*", ("many", ("row", A, B))),
            ("ab|c", ("either", ("row", A, B), C)),
            ("a(b|c)", ("row", A, ("either", B, C))),
            ("a|", ("either", A, EMPTY)),
            ("|a", ("either", EMPTY, A)),
            ("|", ("either", EMPTY, EMPTY)),
            ("(|a)", ("either", EMPTY, A)),
            ("((a))", A),
            ("()*", ("many", EMPTY)),
            ("a~", ("row", A, NONE)),
        ):
            self.assertEqual(parse_pattern(text), pattern, text)

    def test_texts_that_are_no_patterns(self):
        for text in (
            "(", ")", "a)", "(a", "(a|", "*", "*a", "|*", "(*)", "a b", " ", "A", "a+", "a.b", "()(", "a|(b", "(a))", "~~)", "-",
        ):
            with self.assertRaises(TextError):
                parse_pattern(text)

    def test_limits(self):
        self.assertEqual(signs_in(parse_pattern("a" * 99 + "b")), ["a", "b"])
        self.assertEqual(parse_pattern("(" * 20 + "a" + ")" * 20), A)
        self.assertEqual(parse_pattern("(" * 20 + "a" + ")" * 20 + "(b)"), ("row", A, B))
        self.assertEqual(parse_pattern("()" * 20 + "(" * 20 + "a" + ")" * 20)[2], A)
        for text in ("a" * 101, "(" * 21 + "a" + ")" * 21, "()" * 20 + "(" * 21 + "a" + ")" * 21):
            with self.assertRaises(TextError):
                parse_pattern(text)

    def test_has_empty(self):
        for text in ("", "()", "a*", "a*b*", "a|()", "(a|b*)(c*)", "~*", "(|a)"):
            self.assertIs(has_empty(parse_pattern(text)), True, text)
        for text in ("a", "~", "a*b", "()a", "a|b", "~()", "a~*"):
            self.assertIs(has_empty(parse_pattern(text)), False, text)

    def test_behind(self):
        self.assertEqual(behind(A, "a"), EMPTY)
        self.assertEqual(behind(A, "b"), NONE)
        self.assertEqual(behind(EMPTY, "a"), NONE)
        self.assertEqual(behind(NONE, "a"), NONE)
        for text in some_texts():
            pattern, plain = parse_pattern(text), told_as(text)
            for sign in "ab":
                machine = machine_of(behind(pattern, sign), "ab")
                for word in words("ab", 4):
                    self.assertEqual(machine.takes(word), plain.fullmatch(sign + word) is not None, (text, sign, word))

    def test_signs_in(self):
        self.assertEqual(signs_in(parse_pattern("(c|a)*b|a0~()")), ["0", "a", "b", "c"])
        self.assertEqual(signs_in(EMPTY), [])


class MachineTest(unittest.TestCase):
    def test_fields(self):
        machine = Machine(("a", "b"), ((1, 0), (1, 1)), (False, True))
        self.assertEqual((machine.signs, machine.rows, machine.ends), machine.shown())
        self.assertEqual(machine.shown(), (("a", "b"), ((1, 0), (1, 1)), (False, True)))

    def test_takes(self):
        machine = Machine(("a", "b"), ((1, 0), (1, 1)), (False, True))
        self.assertIs(machine.takes("bba"), True)
        self.assertIs(machine.takes("bb"), False)
        self.assertIs(machine.takes(""), False)
        for word in ("c", "ac", "ca", "bbac", "A", "a "):
            self.assertIs(machine.takes(word), False)
            self.assertIs(machine.turned().takes(word), False)

    def test_machines_of_patterns(self):
        for text in some_texts():
            machine, plain = of_text(text), told_as(text)
            for word in words("ab", 5):
                self.assertEqual(machine.takes(word), plain.fullmatch(word) is not None, (text, word))

    def test_known_machines(self):
        self.assertEqual(of_text("a*b").shown(), (("a", "b"), ((0, 1), (2, 2), (2, 2)), (False, True, False)))
        self.assertEqual(of_text("(a|b)*").shown(), (("a", "b"), ((0, 0),), (True,)))
        self.assertEqual(of_text("~").shown(), (("a", "b"), ((0, 0),), (False,)))
        self.assertEqual(of_text("()", "").shown(), ((), ((),), (True,)))
        self.assertEqual(len(of_text("(a|b)*a(a|b)(a|b)(a|b)").rows), 16)

    def test_turned(self):
        for text in some_texts()[:60]:
            machine = of_text(text)
            other = machine.turned()
            self.assertEqual(other.shown(), (machine.signs, machine.rows, tuple([not end for end in machine.ends])))
            for word in words("ab", 4):
                self.assertNotEqual(machine.takes(word), other.takes(word))

    def test_smallest(self):
        twice = Machine(
            ("a", "b"), ((3, 2), (0, 0), (1, 3), (3, 3), (4, 4), (5, 2)), (False, False, False, True, True, False)
        )
        self.assertEqual(twice.reached(), [0, 3, 2, 1])
        self.assertEqual(
            twice.smallest().shown(), (("a", "b"), ((1, 2), (1, 1), (3, 1), (0, 0)), (False, True, False, False))
        )
        same = Machine(("a",), ((1,), (2,), (0,)), (True, True, True))
        self.assertEqual(same.smallest().shown(), (("a",), ((0,),), (True,)))

    def test_smallest_is_the_same_for_the_same_words(self):
        for one, other in (
            ("(a|b)*", "(a*b*)*"),
            ("a(ba)*", "(ab)*a"),
            ("a|b|a", "b|a"),
            ("a*", "()|aa*"),
            ("~a|b", "b~*"),
            ("(aa|aaa)*", "()|aaa*"),
            ("a||b", "(b|a|)"),
        ):
            self.assertEqual(of_text(one).shown(), of_text(other).shown())
        found = {}
        for text in some_texts():
            machine = of_text(text)
            self.assertEqual(machine.shown(), machine.smallest().shown())
            self.assertEqual(machine.reached(), list(range(len(machine.rows))))
            row = tuple([machine.takes(word) for word in words("ab", 8)])
            self.assertEqual(found.setdefault(row, machine.shown()), machine.shown())

    def test_reached(self):
        machine = Machine(("a", "b"), ((2, 1), (4, 0), (1, 3), (3, 3), (4, 4), (0, 0)), (False,) * 6)
        self.assertEqual(machine.reached(), [0, 2, 1, 3, 4])
        self.assertEqual(Machine(("a",), ((0,), (0,)), (True, True)).reached(), [0])

    def test_both(self):
        texts = some_texts()
        for one, other in zip(texts[:50], texts[50:100]):
            left, right = of_text(one), of_text(other)
            for word in words("ab", 5):
                p, q = left.takes(word), right.takes(word)
                self.assertIs(left.both(right, "both").takes(word), p and q)
                self.assertIs(left.both(right, "either").takes(word), p or q)
                self.assertIs(left.both(right, "one").takes(word), p != q)

    def test_errors_of_both(self):
        machine = of_text("a")
        for other, word in (
            (of_text("a", "a"), "both"), (of_text("a", "abc"), "one"), (machine, "none"), (machine, ""), (machine, "Both"),
        ):
            with self.assertRaises(TextError):
                machine.both(other, word)

    def test_shortest(self):
        self.assertEqual(of_text("(a|b)*bb|ab").shortest(), "ab")
        self.assertEqual(of_text("ba|ab").shortest(), "ab")
        self.assertEqual(of_text("a*").shortest(), "")
        self.assertIsNone(of_text("~").shortest())
        self.assertIsNone(of_text("a~b").shortest())
        for text in some_texts():
            plain = [word for word in words("ab", 7) if told_as(text).fullmatch(word)]
            if plain:
                self.assertEqual(of_text(text).shortest(), plain[0])

    def test_count_words(self):
        self.assertEqual([of_text("(a|b)*").count_words(length) for length in range(5)], [1, 2, 4, 8, 16])
        self.assertEqual(of_text("(a|b)*a(a|b)*").count_words(200), 2 ** 200 - 1)
        for text in some_texts()[:80]:
            machine = of_text(text)
            for length in range(5):
                plain = [word for word in words("ab", length) if len(word) == length and machine.takes(word)]
                self.assertEqual(machine.count_words(length), len(plain))


class MachineOfTest(unittest.TestCase):
    def test_signs_in_any_order_or_twice(self):
        plain = of_text("ab*", "abc").shown()
        self.assertEqual(plain[0], ("a", "b", "c"))
        for signs in ("cba", "abcabc", ["b", "c", "a", "a"], ("c", "a", "b")):
            self.assertEqual(of_text("ab*", signs).shown(), plain)

    def test_other_signs(self):
        for text, signs in (("ab", "a"), ("a", ""), ("a|(b~)", "a"), ("c*", "ab")):
            with self.assertRaises(TextError):
                of_text(text, signs)

    def test_too_many_states(self):
        self.assertEqual(len(of_text("(a|b)*a" + "(a|b)" * 6).rows), 128)
        for many in (12, 18):
            with self.assertRaises(TextError):
                of_text("(a|b)*a" + "(a|b)" * many)

    def test_long_patterns(self):
        machine = of_text("a" * 100, "a")
        self.assertEqual(machine.shortest(), "a" * 100)
        self.assertEqual(len(machine.rows), 102)
        self.assertEqual(of_text("a" + "*" * 99).shown(), of_text("a*").shown())
        self.assertEqual(of_text("(" * 20 + "a|b" + ")*" * 20).shown(), of_text("(a|b)*").shown())

    def test_difference_word(self):
        self.assertIsNone(difference_word(of_text("(a|b)*"), of_text("(a*b*)*")))
        self.assertEqual(difference_word(of_text("a*"), of_text("a*b*")), "b")
        self.assertEqual(difference_word(of_text("(ab)*"), of_text("(ab)*|abba")), "abba")
        self.assertEqual(difference_word(of_text("a|b"), of_text("~")), "a")
        self.assertEqual(difference_word(of_text("()"), of_text("a")), "")
        with self.assertRaises(TextError):
            difference_word(of_text("a", "a"), of_text("a", "ab"))


if __name__ == "__main__":
    unittest.main()
