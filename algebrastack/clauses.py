"""Clauses: rows of names that are true or not, found to fit together, or proved not to.

A clause is a row of numbers: n for name n being true, -n for it being false, ascending, each name once.
"""

from algebrastack.errors import SolveError

MOST_NAMES = 60
MOST_CLAUSES = 400
MOST_PARTINGS = 20000


def clause_of(numbers):
    """Return the clause of some numbers, each once, ascending; None if a name stands both ways; SolveError for a 0.

    So it is for a number beyond 60 either way.
    """
    found = {number: True for number in numbers}
    if 0 in found or any([abs(number) > MOST_NAMES for number in found]):
        raise SolveError("a number is no name from 1 to 60")
    if any([0 - number in found for number in found]):
        return None
    return tuple(sorted(found))


def joined_clauses(one, other, name):
    """Return what follows of a clause with a name and one with it being false; SolveError if the name parts them not.

    None stands for what is always true.
    """
    if name not in one or 0 - name not in other:
        raise SolveError("a name does not part two clauses")
    return clause_of([number for number in one if number != name] + [number for number in other if number != 0 - name])


class Solver:
    """Clauses, the steps of a proof, and how many partings were tried."""

    def __init__(self, clauses):
        found = [clause_of(clause) for clause in clauses]
        self.clauses = [clause for clause in found if clause is not None]
        if len(self.clauses) > MOST_CLAUSES:
            raise SolveError("there are more than 400 clauses")
        self.given = sorted({abs(number): True for clause in self.clauses for number in clause})
        # Names are told in order, so that a clause can be false as soon as its last name is told, and not before.
        self.ending = {name: [] for name in self.given}
        for clause in self.clauses:
            if clause != ():
                self.ending[max([abs(number) for number in clause])].append(clause)
        self.truths = {}
        self.steps = []
        self.tried = 0

    def solve(self):
        """Return ("fits", the true names ascending) or ("never", the steps of a proof).

        Raise SolveError after 20000 partings. A step is (name, clause, clause, what follows); the last one has nothing
        that follows. Names are parted from the least on, false ahead of true; names that stand in no clause are false.
        """
        self.truths, self.steps, self.tried = {}, [], 0
        if () in self.clauses:
            return "never", ()
        if self.parted(0) is None:
            return "fits", tuple([name for name in self.given if self.truths[name]])
        return "never", tuple(self.steps)

    def parted(self, place):
        """Return None if the names from a place on can be told so that all fits.

        Else return a clause, told or shown by a step, that the names told before make false.
        """
        if place == len(self.given):
            return None
        self.tried = self.tried + 1
        if self.tried > MOST_PARTINGS:
            raise SolveError("more than 20000 partings were tried")
        name = self.given[place]
        low = self.told(place, False)
        if low is None or name not in low:
            return low
        high = self.told(place, True)
        if high is None or 0 - name not in high:
            return high
        found = joined_clauses(low, high, name)
        self.steps.append((name, low, high, found))
        return found

    def told(self, place, truth):
        """Return None if all fits once the name at a place has a truth, else a clause that is false then."""
        self.truths[self.given[place]] = truth
        for clause in self.ending[self.given[place]]:
            if all([self.truths[abs(number)] != (number > 0) for number in clause]):
                return clause
        return self.parted(place + 1)


def holds_by(clause, names):
    """Return True if a clause is true when some names are true and all others false."""
    return any([(abs(number) in names) == (number > 0) for number in clause])


def check_steps(clauses, steps):
    """Raise SolveError if steps do not prove that clauses never fit: each joins what is told or was shown before.

    Some step, or a clause, has nothing in it.
    """
    told = [clause_of(clause) for clause in clauses]
    shown = {clause: True for clause in told if clause is not None}
    for name, one, other, found in steps:
        if one not in shown or other not in shown or found is None:
            raise SolveError("a step joins what was not shown")
        if joined_clauses(one, other, name) != found:
            raise SolveError("something else follows of a step")
        shown[found] = True
    if () not in shown:
        raise SolveError("nothing is proved")
