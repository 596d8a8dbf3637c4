"""Decisions: truths of names as diagrams in which the same question is asked once, always in the same order."""

from algebrastack.errors import TextError

NO = 0
YES = 1
MOST_NAMES = 30
MOST_NODES = 5000


class Diagrams:
    """Names in order, nodes (place of a name, node if it is false, node if it is true), and their numbers.

    Node 0 is false, node 1 true.
    """

    def __init__(self, names):
        self.names = tuple(names)
        if len({name: True for name in self.names}) != len(self.names) or len(self.names) > MOST_NAMES:
            raise TextError("a name is told twice, or there are more than 30")
        last = len(self.names)
        self.nodes = [(last, NO, NO), (last, YES, YES)]
        self.numbers = {}
        self.answers = {}

    def place_of(self, node):
        """Return the place of the name that a node asks, the number of names for the two last ones."""
        return self.nodes[node][0]

    def name(self, name):
        """Return the node of a name; raise TextError for an unknown one."""
        return self.asked(self.place_in(name), NO, YES)

    def place_in(self, name):
        """Return the place of a name; raise TextError for an unknown one."""
        if name not in self.names:
            raise TextError("a name is unknown")
        return self.names.index(name)

    def asked(self, place, low, high):
        """Return the node that asks a name and leads to two others; raise TextError for more than 5000 nodes."""
        if low == high:
            return low
        node = (place, low, high)
        if node not in self.numbers:
            if len(self.nodes) >= MOST_NODES:
                raise TextError("there are more than 5000 nodes")
            self.numbers[node] = len(self.nodes)
            self.nodes.append(node)
        return self.numbers[node]

    def led(self, node, place, truth):
        """Return the node to which a node leads if the name at a place, none behind its own, has a truth."""
        if self.nodes[node][0] != place:
            return node
        return self.nodes[node][2 if truth else 1]

    def chosen(self, one, two, three):
        """Return the node that is what a second node is where a first one is true, else what a third one is."""
        if one == YES or two == three:
            return two
        if one == NO:
            return three
        question = (one, two, three)
        if question not in self.answers:
            place = min([self.place_of(node) for node in question])
            low, high = [
                self.chosen(self.led(one, place, truth), self.led(two, place, truth), self.led(three, place, truth))
                for truth in (False, True)
            ]
            self.answers[question] = self.asked(place, low, high)
        return self.answers[question]

    def both(self, one, other):
        """Return the node that is true where two are."""
        return self.chosen(one, other, NO)

    def either(self, one, other):
        """Return the node that is true where one of two is."""
        return self.chosen(one, YES, other)

    def opposite(self, one):
        """Return the node that is true where one is not."""
        return self.chosen(one, NO, YES)

    def value(self, node, truths):
        """Return True if a node is true by a table of names to truths; raise TextError for a name that is not told."""
        here = node
        while here not in (NO, YES):
            name = self.names[self.place_of(here)]
            if name not in truths:
                raise TextError("a name is not told")
            here = self.led(here, self.place_of(here), truths[name])
        return here == YES

    def count(self, node):
        """Return by how many truths of all names a node is true."""
        return self.count_from(node, {NO: 0, YES: 1}) << self.place_of(node)

    def count_from(self, node, counts):
        """Return by how many truths of the names from its own on a node is true; those that are known are passed."""
        if node not in counts:
            place, low, high = self.nodes[node]
            found = 0
            for below in (low, high):
                # A name that is left out on the way may be either.
                found = found + (self.count_from(below, counts) << (self.place_of(below) - place - 1))
            counts[node] = found
        return counts[node]

    def first_truths(self, node):
        """Return the least row of truths, false ahead of true, by which a node is true; None for none."""
        if node == NO:
            return None
        found, here = [], node
        for place in range(len(self.names)):
            # Only node 0 itself is never true, so that one answer always leads on.
            truth = self.led(here, place, False) == NO
            here = self.led(here, place, truth)
            found.append(truth)
        return tuple(found)

    def with_name(self, node, name, truth):
        """Return the node in which a name has a truth; raise TextError for an unknown one."""
        return self.fixed(node, self.place_in(name), truth, {})

    def fixed(self, node, place, truth, known):
        """Return the node in which the name at a place has a truth; those that are known are passed."""
        if self.place_of(node) >= place:
            return self.led(node, place, truth)
        if node not in known:
            own, low, high = self.nodes[node]
            found = [self.fixed(below, place, truth, known) for below in (low, high)]
            known[node] = self.asked(own, found[0], found[1])
        return known[node]

    def some(self, node, name):
        """Return the node that is true where a node is by some truth of a name; raise TextError for an unknown one."""
        return self.either(self.with_name(node, name, False), self.with_name(node, name, True))

    def used(self, node):
        """Return the names that a node's truth hangs on, in order."""
        seen, left = {NO: True, YES: True}, [node]
        places = {}
        while left != []:
            here = left.pop()
            if here not in seen:
                seen[here] = True
                place, low, high = self.nodes[here]
                places[place] = True
                left = left + [low, high]
        return tuple([self.names[place] for place in sorted(places)])
