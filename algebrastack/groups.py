"""Groups: permutations of places from 0 on, as tuples of where each goes, and the groups that they make."""

from itertools import permutations
from math import lcm

from algebrastack.errors import MatrixError, SolveError

MOST_PLACES = 12
MOST_ELEMENTS = 5000
MOST_SYMMETRIC = 7


def is_permutation(one):
    """Return True for a tuple in which each place stands once."""
    return sorted(one) == list(range(len(one)))


def identity(many):
    """Return the permutation that leaves all places."""
    return tuple(range(many))


def after(one, other):
    """Return the permutation that does one and then another."""
    return tuple([other[aim] for aim in one])


def undone(one):
    """Return the permutation that leads back."""
    found = [0] * len(one)
    for place, aim in enumerate(one):
        found[aim] = place
    return tuple(found)


def cycles(one):
    """Return the cycles of a permutation, each from its least place on, ascending, places that stay left out."""
    seen, found = {}, []
    for start in range(len(one)):
        row, place = [], start
        while place not in seen:
            seen[place] = True
            row.append(place)
            place = one[place]
        if len(row) > 1:
            found.append(tuple(row))
    return tuple(found)


def from_cycles(rows, many):
    """Return the permutation of so many places with some cycles; SolveError if a place stands twice, or outside."""
    seen, found = {}, list(range(many))
    for row in rows:
        for step, place in enumerate(row):
            if place in seen or not 0 <= place < many:
                raise SolveError("a place stands twice, or there is no such place")
            seen[place] = True
            found[place] = row[(step + 1) % len(row)]
    return tuple(found)


def order_of_permutation(one):
    """Return how often a permutation must be done until all stand again where they were."""
    found = 1
    for row in cycles(one):
        found = lcm(found, len(row))
    return found


def parity(one):
    """Return 1 for a permutation of an even number of exchanges, -1 for an odd one."""
    return 1 if sum([len(row) - 1 for row in cycles(one)]) % 2 == 0 else -1


class Group:
    """Permutations that make a group, and for each place a table of where it may go while earlier ones stay.

    Each table leads from an aim to a permutation of the group that leaves all earlier places and takes this one there.
    """

    def __init__(self, generators, many):
        self.many = many
        self.generators = tuple(generators)
        if not 1 <= many <= MOST_PLACES:
            raise MatrixError("a group has from 1 to 12 places")
        if any([len(one) != many or not is_permutation(one) for one in self.generators]):
            raise MatrixError("a generator is no permutation of the places")
        self.stay = tuple(full_tables(self.generators, many))

    def count_all(self):
        """Return how many permutations the group has."""
        found = 1
        for table in self.stay:
            found = found * len(table)
        return found

    def has(self, one):
        """Return True for a permutation of the group."""
        if len(one) != self.many or not is_permutation(one):
            return False
        return led_back(self.stay, one)[0] == self.many

    def orbit(self, place):
        """Return the places to which the group takes one, ascending; raise SolveError for no place."""
        need_place(place, self.many)
        return tuple(sorted(ways_from(self.generators, place, self.many)))

    def orbits(self):
        """Return the orbits, ascending."""
        rows = [self.orbit(place) for place in range(self.many)]
        return tuple([row for place, row in enumerate(rows) if row[0] == place])

    def all_elements(self):
        """Return all permutations of the group, ascending; raise SolveError for more than 5000."""
        if self.count_all() > MOST_ELEMENTS:
            raise SolveError("a group has more than 5000 permutations")
        found = [identity(self.many)]
        for table in reversed(self.stay):
            found = [after(one, table[aim]) for one in found for aim in table]
        return tuple(sorted(found))

    def is_commutative(self):
        """Return True if it does not matter in which order any two are done."""
        return all([after(one, other) == after(other, one) for one in self.generators for other in self.generators])

    def stabilizer(self, place):
        """Return the group of those that leave a place where it is; raise SolveError for no place."""
        need_place(place, self.many)
        ways = ways_from(self.generators, place, self.many)
        # Schreier: those that go to an aim, on by a generator, and straight back make all of the group that is meant.
        found = {}
        for aim, way in ways.items():
            for one in self.generators:
                found[after(after(way, one), undone(ways[one[aim]]))] = True
        return Group(sorted(found), self.many)


def need_place(place, many):
    """Raise SolveError if there is no such place."""
    if not 0 <= place < many:
        raise SolveError("there is no such place")


def ways_from(generators, place, many):
    """Return a table from the places to which generators take one to a permutation that does."""
    found, queue = {place: identity(many)}, [place]
    while queue != []:
        aim = queue.pop()
        for one in generators:
            if one[aim] not in found:
                found[one[aim]] = after(found[aim], one)
                queue.append(one[aim])
    return found


def led_back(tables, one):
    """Return (place, what is left): a permutation led back by tables as long as they know its aims."""
    left = one
    for place, table in enumerate(tables):
        if left[place] not in table:
            return place, left
        left = after(left, undone(table[left[place]]))
    return len(tables), left


def full_tables(generators, many):
    """Return the tables of the group that permutations make."""
    tables = [{place: identity(many)} for place in range(many)]
    queue = list(generators)
    while queue != []:
        place, left = led_back(tables, queue.pop())
        if place < many:
            # The tables are full as soon as the product of any two of their permutations leads back.
            others = [one for table in tables for one in table.values()]
            tables[place][left[place]] = left
            queue = queue + [after(left, one) for one in others + [left]] + [after(one, left) for one in others]
    return tables


def symmetries(count, joined_pairs):
    """Return the group of permutations of places that take a set of pairs of places to itself, for up to 7 places.

    A pair is the same either way round.
    """
    if not 1 <= count <= MOST_SYMMETRIC:
        raise SolveError("there are from 1 to 7 places")
    pairs = {tuple(sorted(pair)): True for pair in joined_pairs}
    for pair in pairs:
        for place in pair:
            need_place(place, count)
    group = Group((), count)
    for one in arrangements(list(range(count))):
        if keeps(one, pairs) and not group.has(one):
            group = Group(group.generators + (one,), count)
    return group


def keeps(one, pairs):
    """Return True if a permutation takes each pair to one of the pairs."""
    return all([tuple(sorted([one[place] for place in pair])) in pairs for pair in pairs])


def arrangements(rows):
    """Return all orders of some rows as tuples."""
    return list(permutations(rows))
