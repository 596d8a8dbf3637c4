"""Flows: how much can go from one place to another over ways of bounded width, and what bounds it; and pairs."""

from algebrastack.errors import SolveError

MOST_ENDS = 60
LEFT = "left"
RIGHT = "right"


class Flow:
    """How much goes over each way (in order), how much in all, and the places on the first one's side of the bound."""

    def __init__(self, amounts, total, side):
        self.amounts = tuple(amounts)
        self.total = total
        self.side = tuple(side)

    def shown(self):
        """Return (amounts, total, side)."""
        return self.amounts, self.total, self.side


class Filling:
    """Ways of bounded width, how much goes over each so far, and by which ways each place is left."""

    def __init__(self, many, ways):
        self.ways = ways
        self.filled = [0] * len(ways)
        self.leaving = [[] for _ in range(many)]
        for number, (one, other, _) in enumerate(ways):
            # What goes over a way can be taken back: so it leads back, too.
            self.leaving[one].append((number, True, other))
            self.leaving[other].append((number, False, one))

    def room(self, number, ahead):
        """Return how much more can go over a way, or can be taken back from it."""
        return self.ways[number][2] - self.filled[number] if ahead else self.filled[number]

    def reached_from(self, first):
        """Return a table from the places to which room leads, the nearer ones first, to the step that leads there."""
        steps, fresh = {first: None}, [first]
        while fresh != []:
            found = []
            for place in fresh:
                for number, ahead, aim in self.leaving[place]:
                    if aim not in steps and self.room(number, ahead) > 0:
                        steps[aim] = (number, ahead, place)
                        found.append(aim)
            fresh = found
        return steps

    def fill(self, steps, last):
        """Fill a way on which steps lead to a place as far as there is room; return how much it was."""
        row, place = [], last
        while steps[place] is not None:
            number, ahead, before = steps[place]
            row.append((number, ahead))
            place = before
        amount = min([self.room(number, ahead) for number, ahead in row])
        for number, ahead in row:
            self.filled[number] = self.filled[number] + (amount if ahead else 0 - amount)
        return amount


def greatest_flow(many, ways, first, last):
    """Return the greatest flow between two of so many places over ways (from, to, width); SolveError for none such.

    Shortest ways with room are filled one after another. The side holds the places that room still leads to.
    """
    if not 0 < many <= MOST_ENDS or first == last or not (0 <= first < many and 0 <= last < many):
        raise SolveError("there are no such two places, or too many")
    if any([not 0 <= one < many or not 0 <= other < many or width < 0 for one, other, width in ways]):
        raise SolveError("there is no such way")
    filling, total = Filling(many, ways), 0
    steps = filling.reached_from(first)
    while last in steps:
        total = total + filling.fill(steps, last)
        steps = filling.reached_from(first)
    return Flow(filling.filled, total, sorted(steps))


def proves_flow(many, ways, first, last, flow):
    """Return True if a flow fits its ways, keeps what comes in, and its side bounds it by just its total."""
    amounts, total, side = flow.shown()
    if len(amounts) != len(ways) or first not in side or last in side:
        return False
    ends = [one for one, _, _ in ways] + [other for _, other, _ in ways]
    if any([not 0 <= place < many for place in ends + list(side) + [last]]):
        return False
    left_over, bound = [0] * many, 0
    for (one, other, width), amount in zip(ways, amounts):
        if not 0 <= amount <= width:
            return False
        left_over[one] = left_over[one] - amount
        left_over[other] = left_over[other] + amount
        if one in side and other not in side:
            bound = bound + width
    kept = all([number == 0 for place, number in enumerate(left_over) if place not in (first, last)])
    return kept and left_over[last] == total and bound == total


def pairs_of(left, right, fits):
    """Return (pairs, cover): the most (left, right) pairs of (left, right) rows that fit, none in two, and a cover.

    So many numbers from 0 on stand left, and so many right. The cover is as many ("left", number) and
    ("right", number), one of which is in each row that fits.
    """
    if left < 0 or right < 0 or any([not (0 <= one < left and 0 <= other < right) for one, other in fits]):
        raise SolveError("there is no such number left or right")
    # All come from one place, cross by what fits, and go on to another place; each number lets one through.
    first, last = left + right, left + right + 1
    ways = [(one, left + other, 1) for one, other in fits]
    ways = ways + [(first, one, 1) for one in range(left)] + [(left + other, last, 1) for other in range(right)]
    flow = greatest_flow(left + right + 2, ways, first, last)
    pairs = sorted([pair for pair, amount in zip(fits, flow.amounts) if amount > 0])
    cover = [(LEFT, one) for one in range(left) if one not in flow.side]
    cover = cover + [(RIGHT, other) for other in range(right) if left + other in flow.side]
    return tuple([tuple(pair) for pair in pairs]), tuple(cover)


def chains_of(many, below):
    """Return (chains, apart) of an order of numbers: the fewest chains that hold all, and as many that are all apart.

    below is the rows (lesser, greater) of the whole order; SolveError for one that is no order.
    """
    rows = [(one, other) for one, other in below]
    need_order(rows)
    pairs, cover = pairs_of(many, many, rows)
    above = {one: other for one, other in pairs}
    covered = {number: True for _, number in cover}
    later = {other: True for _, other in pairs}
    chains = [chain_from(number, above) for number in range(many) if number not in later]
    return tuple(chains), tuple([number for number in range(many) if number not in covered])


def need_order(rows):
    """Raise SolveError for rows (lesser, greater) that are no whole order."""
    there = {row: True for row in rows}
    if any([(other, one) in there or one == other for one, other in there]):
        raise SolveError("a number is below itself")
    if any([one[1] == other[0] and (one[0], other[1]) not in there for one in there for other in there]):
        raise SolveError("an order does not hold what follows of it")


def chain_from(number, above):
    """Return the chain that begins with a number, each leading to the next by a table."""
    found = [number]
    while found[-1] in above:
        found.append(above[found[-1]])
    return tuple(found)
