"""Groups: permutations of places from 0 on, as tuples of where each goes, and the groups that they make."""

from itertools import permutations
from math import lcm

from algebrastack.errors import MatrixError, SolveError

MOST_PLACES = 12
MOST_ELEMENTS = 5000
MOST_SYMMETRIC = 7


def is_permutation(one):
    """Return True for a tuple in which each place stands once."""
    return sorted(one) == list(range(len(one)))


def identity(many):
    """Return the permutation that leaves all places."""
    return tuple(range(many))


def after(one, other):
    """Return the permutation that does one and then another."""
    return tuple([other[aim] for aim in one])


def undone(one):
    """Return the permutation that leads back."""
    found = [0] * len(one)
    for place, aim in enumerate(one):
        found[aim] = place
    return tuple(found)


def cycles(one):
    """Return the cycles of a permutation, each from its least place on, ascending, places that stay left out."""
    seen, found = {}, []
    for start in range(len(one)):
        row, place = [], start
        while place not in seen:
            seen[place] = True
            row.append(place)
            place = one[place]
        if len(row) > 1:
            found.append(tuple(row))
    return tuple(found)


def from_cycles(rows, many):
    """Return the permutation of so many places with some cycles; SolveError if a place stands twice, or outside."""
    seen, found = {}, list(range(many))
    for row in rows:
        for step, place in enumerate(row):
            if place in seen or not 0 <= place < many:
                raise SolveError("a place stands twice, or there is no such place")
            seen[place] = True
            found[place] = row[(step + 1) % len(row)]
    return tuple(found)


def order_of_permutation(one):
    """Return how often a permutation must be done until all stand again where they were."""
    found = 1
    for row in cycles(one):
        found = lcm(found, len(row))
    return found


def parity(one):
    """Return 1 for a permutation of an even number of exchanges, -1 for an odd one."""
    return 1 if sum([len(row) - 1 for row in cycles(one)]) % 2 == 0 else -1


class Group:
    """Permutations that make a group, and for each place a table of where it may go while earlier ones stay.

    Each table leads from an aim to a permutation of the group that leaves all earlier places and takes this one there.
    """

    def __init__(self, generators, many):
        self.many = many
        self.generators = tuple(generators)
        if not 1 <= many <= MOST_PLACES:
            raise MatrixError("a group has from 1 to 12 places")
        if any([len(one) != many or not is_permutation(one) for one in self.generators]):
            raise MatrixError("a generator is no permutation of the places")
        self.tables = Tables(many)
        for one in self.generators:
            self.tables.take_in(one, 0)
        self.stay = tuple(self.tables.ways)

    def count_all(self):
        """Return how many permutations the group has."""
        return self.tables.size_from(0)

    def has(self, one):
        """Return True for a permutation of the group."""
        return len(one) == self.many and is_permutation(one) and self.tables.leads_back(one, 0)

    def orbit(self, place):
        """Return the places to which the group takes one, ascending; raise SolveError for no place."""
        need_place(place, self.many)
        orbit_of = self.tables.orbit_of[0]
        return tuple([aim for aim in range(self.many) if orbit_of[aim] == orbit_of[place]])

    def orbits(self):
        """Return the orbits, ascending."""
        rows = {}
        for place, orbit in enumerate(self.tables.orbit_of[0]):
            rows.setdefault(orbit, []).append(place)
        return tuple([tuple(row) for row in rows.values()])

    def all_elements(self):
        """Return all permutations of the group, ascending; raise SolveError for more than 5000."""
        if self.count_all() > MOST_ELEMENTS:
            raise SolveError("a group has more than 5000 permutations")
        found = [identity(self.many)]
        for table in reversed(self.stay):
            if len(table) > 1:
                found = [after(one, way) for one in found for way in table.values()]
        return tuple(sorted(found))

    def is_commutative(self):
        """Return True if it does not matter in which order any two are done."""
        return all([after(one, other) == after(other, one) for one in self.generators for other in self.generators])

    def stabilizer(self, place):
        """Return the group of those that leave a place where it is; raise SolveError for no place."""
        need_place(place, self.many)
        ways = ways_from(self.generators, place, self.many)
        # Schreier: those that go to an aim, on by a generator, and straight back make all of the group that is meant.
        found = {}
        for aim, way in ways.items():
            for one in self.generators:
                found[after(after(way, one), undone(ways[one[aim]]))] = True
        return Group(sorted(found), self.many)


class Tables:
    """Tables of where each place may go while earlier ones stay, those that lead back, and what they were made of.

    The permutations of which the tables from a place on are made leave all earlier places. As soon as one is taken in,
    the tables from there on are those of the whole group that they make.
    """

    def __init__(self, many):
        self.many = many
        self.ways = [{place: identity(many)} for place in range(many)]
        self.backs = [{} for _ in range(many)]
        self.makers = [[] for _ in range(many)]
        self.orbit_of = [list(range(many)) for _ in range(many)]
        self.is_even = [True] * many

    def size_from(self, first):
        """Return how many permutations the tables from a place on make."""
        found = 1
        for table in self.ways[first:]:
            found = found * len(table)
        return found

    def most_from(self, first):
        """Return how many permutations the makers from a place on can make at most: by their orbits, and all even."""
        found, sizes = 1, {}
        for orbit in self.orbit_of[first]:
            sizes[orbit] = sizes.get(orbit, 0) + 1
            found = found * sizes[orbit]
        return found // 2 if self.is_even[first] and found > 1 else found

    def leads_back(self, one, first):
        """Return True if the tables lead a permutation, which leaves all places before the first one, back."""
        left = one
        for place in range(first, self.many):
            aim = left[place]
            if aim != place:
                if aim not in self.backs[place]:
                    return False
                left = after(left, self.backs[place][aim])
        return True

    def take_in(self, one, first):
        """Fill the tables from a place on with a permutation more, which leaves all places before the first one."""
        if self.leads_back(one, first):
            return
        self.makers[first].append(one)
        self.is_even[first] = self.is_even[first] and parity(one) == 1
        self.orbit_of[first] = joined_orbits(self.orbit_of[first], one)
        most = self.most_from(first)
        for aim, maker in self.reach_on(one, first):
            # Tables that are as large as they can be are full, whatever is still to be tried.
            if self.size_from(first) == most:
                return
            way, goal = after(self.ways[first][aim], maker), maker[aim]
            if way != self.ways[first][goal]:
                self.take_in(way if goal == first else after(way, self.backs[first][goal]), first + 1)

    def reach_on(self, one, first):
        """Let the table of a place reach all that it can with a maker more; return what is to be tried: (aim, maker).

        Schreier: where those that go to an aim, on by a maker, and straight back are all in the later tables' group,
        nothing is missing. Those that made the table reach on are the way itself.
        """
        table, makers, found = self.ways[first], self.makers[first], []
        left = [(aim, one) for aim in table]
        while left != []:
            aim, maker = left.pop()
            goal = maker[aim]
            if goal in table:
                found.append((aim, maker))
            else:
                table[goal] = after(table[aim], maker)
                self.backs[first][goal] = undone(table[goal])
                left = left + [(goal, other) for other in makers]
        return found


def joined_orbits(orbit_of, one):
    """Return for each place a number of its orbit, where the orbits of places and their aims are the same."""
    found = orbit_of
    for place, aim in enumerate(one):
        if found[place] != found[aim]:
            old, new = found[place], found[aim]
            found = [new if orbit == old else orbit for orbit in found]
    return found


def need_place(place, many):
    """Raise SolveError if there is no such place."""
    if not 0 <= place < many:
        raise SolveError("there is no such place")


def ways_from(generators, place, many):
    """Return a table from the places to which generators take one to a permutation that does."""
    found, queue = {place: identity(many)}, [place]
    while queue != []:
        aim = queue.pop()
        for one in generators:
            if one[aim] not in found:
                found[one[aim]] = after(found[aim], one)
                queue.append(one[aim])
    return found


def symmetries(count, joined_pairs):
    """Return the group of permutations of places that take a set of pairs of places to itself, for up to 7 places.

    A pair is the same either way round.
    """
    if not 1 <= count <= MOST_SYMMETRIC:
        raise SolveError("there are from 1 to 7 places")
    pairs = {}
    for one, other in joined_pairs:
        need_place(one, count)
        need_place(other, count)
        pairs[one, other] = True
        pairs[other, one] = True
    found, orbit_of = [], list(range(count))
    # Those that leave all places up to one come first: then one for each new aim of the place makes all the others.
    for place in reversed(range(count)):
        for aim in range(place + 1, count):
            one = None if orbit_of[aim] == orbit_of[place] else first_keeping(identity(place) + (aim,), count, pairs)
            if one is not None:
                found.append(one)
                orbit_of = joined_orbits(orbit_of, one)
    return Group(found, count)


def first_keeping(row, count, pairs):
    """Return the first permutation of places that begins with a row and keeps pairs, None if there is none.

    The row without its last number keeps all pairs that it tells of.
    """
    place, aim = len(row) - 1, row[-1]
    if any([((step, place) in pairs) != ((row[step], aim) in pairs) for step in range(len(row))]):
        return None
    if len(row) == count:
        return row
    for more in range(count):
        if more not in row:
            found = first_keeping(row + (more,), count, pairs)
            if found is not None:
                return found
    return None


def arrangements(rows):
    """Return all orders of some rows as tuples."""
    return list(permutations(rows))
