"""Machines: patterns of signs as machines that read words, made as small as they can be.

Patterns are ("sign", sign), ("empty",), ("none",), ("row", a, b), ("either", a, b) and ("many", a).
"""

from algebrastack.errors import TextError

SIGNS = "0123456789abcdefghijklmnopqrstuvwxyz"
EMPTY = ("empty",)
NONE = ("none",)
MOST_SIGNS_OF_PATTERN = 100
MOST_OPEN = 20
MOST_STATES = 1000
BOTH = "both"
EITHER = "either"
ONE = "one"


class PatternReader:
    """A text, a place in it, and how many brackets are open."""

    def __init__(self, text):
        self.text = text
        self.place = 0
        self.depth = 0

    def next_sign(self):
        """Return the next sign, "" at the end."""
        return self.text[self.place:self.place + 1]

    def takes_next(self, mark):
        """Return True, and go on behind it, if a sign stands next."""
        if self.next_sign() != mark:
            return False
        self.place = self.place + 1
        return True

    def read_either(self):
        """Return the pattern of rows between bars."""
        found = self.read_row()
        while self.takes_next("|"):
            found = ("either", found, self.read_row())
        return found

    def read_row(self):
        """Return the pattern of parts that stand in a row, the empty word for no part."""
        found = None
        while self.next_sign() not in ("", "|", ")"):
            part = self.read_many()
            found = part if found is None else ("row", found, part)
        return EMPTY if found is None else found

    def read_many(self):
        """Return the pattern of a part, perhaps with "*" behind it."""
        found = self.read_part()
        while self.takes_next("*"):
            found = ("many", found)
        return found

    def read_part(self):
        """Return the pattern of a sign, of "~", or of what stands in brackets."""
        if self.takes_next("("):
            return self.read_brackets()
        if self.takes_next("~"):
            return NONE
        sign = self.next_sign()
        if sign not in SIGNS:
            raise TextError("a sign stands for nothing here")
        self.place = self.place + 1
        return "sign", sign

    def read_brackets(self):
        """Return the pattern of what stands in a bracket that was opened."""
        self.depth = self.depth + 1
        if self.depth > MOST_OPEN:
            raise TextError("more than 20 brackets stand within each other")
        found = self.read_either()
        if not self.takes_next(")"):
            raise TextError("a bracket is not closed")
        self.depth = self.depth - 1
        return found


def parse_pattern(text):
    """Return the pattern of a text: signs, brackets, "|" loosest, then rows, then "*"; "~" is none; TextError else.

    A row of no part is the empty word.
    """
    if len(text) > MOST_SIGNS_OF_PATTERN:
        raise TextError("a pattern has more than 100 signs")
    reader = PatternReader(text)
    found = reader.read_either()
    if reader.place != len(text):
        raise TextError("something stands behind a pattern")
    return found


def has_empty(pattern):
    """Return True if a pattern takes the empty word."""
    word = pattern[0]
    if word == "row":
        return has_empty(pattern[1]) and has_empty(pattern[2])
    if word == "either":
        return has_empty(pattern[1]) or has_empty(pattern[2])
    return word in ("empty", "many")


def behind(pattern, sign):
    """Return the pattern of what may stand behind a sign."""
    found = NONE
    for part in parts_behind(pattern, sign):
        found = part if found == NONE else ("either", found, part)
    return found


def parts_behind(pattern, sign):
    """Return patterns, each once, of which any may stand behind a sign.

    However long a word is, all that may stand behind it is made of as many such patterns at most as there are signs.
    """
    word = pattern[0]
    if word == "sign":
        return [EMPTY] if pattern[1] == sign else []
    if word == "either":
        return each_once(parts_behind(pattern[1], sign) + parts_behind(pattern[2], sign))
    if word == "many":
        return each_once([row_of(part, pattern) for part in parts_behind(pattern[1], sign)])
    if word != "row":
        return []
    found = [row_of(part, pattern[2]) for part in parts_behind(pattern[1], sign)]
    if has_empty(pattern[1]):
        found = found + parts_behind(pattern[2], sign)
    return each_once(found)


def row_of(one, other):
    """Return the pattern of one and then another."""
    if one == EMPTY:
        return other
    return NONE if NONE in (one, other) else ("row", one, other)


def each_once(patterns):
    """Return patterns without those that were told before, and without none."""
    found = []
    for one in patterns:
        if one != NONE and one not in found:
            found.append(one)
    return found


def signs_in(pattern):
    """Return the signs of a pattern, in order."""
    found, left = {}, [pattern]
    while left != []:
        one = left.pop()
        if one[0] == "sign":
            found[one[1]] = True
        else:
            left = left + list(one[1:])
    return sorted(found)


class Machine:
    """Signs ascending, a row of states for each state, one for each sign, and which states end.

    It begins in state 0.
    """

    def __init__(self, signs, rows, ends):
        self.signs = tuple(signs)
        self.rows = tuple([tuple(row) for row in rows])
        self.ends = tuple(ends)

    def shown(self):
        """Return (signs, rows, ends)."""
        return self.signs, self.rows, self.ends

    def takes(self, word):
        """Return True if the machine takes a word; one with other signs is not taken."""
        state = 0
        for sign in word:
            if sign not in self.signs:
                return False
            state = self.rows[state][self.signs.index(sign)]
        return self.ends[state]

    def turned(self):
        """Return the machine that takes just the words of its signs that this one does not."""
        return Machine(self.signs, self.rows, [not end for end in self.ends])

    def smallest(self):
        """Return the smallest machine that takes the same words, its states in the order in which words reach them."""
        states = self.reached()
        kinds, many = {state: bool(self.ends[state]) for state in states}, 0
        # States are of one kind as long as nothing tells them apart: at first that they end, then where they lead.
        while many < len({kind: True for kind in kinds.values()}):
            many = len({kind: True for kind in kinds.values()})
            kinds = numbered({
                state: (kinds[state],) + tuple([kinds[aim] for aim in self.rows[state]]) for state in states
            })
        firsts = {}
        for state in states:
            firsts.setdefault(kinds[state], state)
        rows = [[kinds[aim] for aim in self.rows[state]] for state in firsts.values()]
        return Machine(self.signs, rows, [self.ends[state] for state in firsts.values()])

    def reached(self):
        """Return the states that words reach, in the order in which they do, shorter words and lesser signs first."""
        return list(self.words_to())

    def words_to(self):
        """Return a table from the states that words reach to the first of the shortest words that do, in order."""
        words, fresh = {0: ""}, [0]
        while fresh != []:
            found = []
            for state in fresh:
                for sign, aim in zip(self.signs, self.rows[state]):
                    if aim not in words:
                        words[aim] = words[state] + sign
                        found.append(aim)
            fresh = found
        return words

    def both(self, other, word):
        """Return the machine that takes words that both, either, or just one of two takes: "both", "either" or "one".

        Raise TextError for machines of other signs, or another word.
        """
        if self.signs != other.signs or word not in (BOTH, EITHER, ONE):
            raise TextError("machines have other signs, or a word is unknown")
        pairs, rows, ends = {(0, 0): 0}, [], []
        left = [(0, 0)]
        while len(rows) < len(left):
            one, two = left[len(rows)]
            row = []
            for pair in zip(self.rows[one], other.rows[two]):
                if pair not in pairs:
                    pairs[pair] = len(left)
                    left.append(pair)
                row.append(pairs[pair])
            rows.append(row)
            ends.append(ends_by(word, self.ends[one], other.ends[two]))
        return Machine(self.signs, rows, ends).smallest()

    def shortest(self):
        """Return the shortest word that is taken, the first of equals; None if none is."""
        for state, word in self.words_to().items():
            if self.ends[state]:
                return word
        return None

    def count_words(self, length):
        """Return how many words of a length are taken."""
        counts = {0: 1}
        for _ in range(length):
            found = {}
            for state, many in counts.items():
                for aim in self.rows[state]:
                    found[aim] = found.get(aim, 0) + many
            counts = found
        return sum([many for state, many in counts.items() if self.ends[state]])


def numbered(table):
    """Return a table with a number from 0 on for each worth, in the order in which they come."""
    numbers, found = {}, {}
    for key, worth in table.items():
        found[key] = numbers.setdefault(worth, len(numbers))
    return found


def ends_by(word, one, other):
    """Return True if a state ends that stands for two, which end or do not, by what is asked of both."""
    if word == BOTH:
        return bool(one and other)
    return bool(one or other) if word == EITHER else bool(one) != bool(other)


class Gathering:
    """Patterns that may stand behind words, and for each of them and each sign which ones may stand behind that."""

    def __init__(self, signs):
        self.signs = signs
        self.patterns = []
        self.leads = []

    def number_of_pattern(self, pattern):
        """Return the number of a pattern, a new one if it was not told before."""
        if pattern not in self.patterns:
            self.patterns.append(pattern)
            self.leads.append({})
        return self.patterns.index(pattern)

    def after_sign(self, state, sign):
        """Return the numbers, ascending, of what may stand behind a sign where one of some patterns does."""
        found = {}
        for number in state:
            if sign not in self.leads[number]:
                parts = parts_behind(self.patterns[number], sign)
                self.leads[number][sign] = [self.number_of_pattern(part) for part in parts]
            for part in self.leads[number][sign]:
                found[part] = True
        return tuple(sorted(found))

    def ends_in(self, state):
        """Return True if one of some patterns takes the empty word."""
        return any([has_empty(self.patterns[number]) for number in state])


def machine_of(pattern, signs):
    """Return the smallest machine of a pattern; raise TextError for other signs in it, or too many states on the way.

    Signs may be told in any order, and twice.
    """
    order = sorted({sign: True for sign in signs})
    if any([sign not in order for sign in signs_in(pattern)]):
        raise TextError("a pattern has other signs")
    gathering = Gathering(order)
    begin = (gathering.number_of_pattern(pattern),)
    numbers, states, rows = {begin: 0}, [begin], []
    while len(rows) < len(states):
        row = []
        for sign in order:
            aim = gathering.after_sign(states[len(rows)], sign)
            if aim not in numbers:
                if len(states) >= MOST_STATES:
                    raise TextError("a machine has too many states")
                numbers[aim] = len(states)
                states.append(aim)
            row.append(numbers[aim])
        rows.append(row)
    return Machine(order, rows, [gathering.ends_in(state) for state in states]).smallest()


def difference_word(one, other):
    """Return the shortest word that just one of two machines takes, None if they take the same; TextError for signs."""
    return one.both(other, ONE).shortest()
