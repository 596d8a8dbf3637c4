"""Matrices of fractions, as tuples of rows, and of whole numbers."""

from algebrastack.errors import MatrixError
from algebrastack.linear import null_by, steps_by
from algebrastack.polys import Field
from algebrastack.rationals import ONE, ZERO, product_of, quotient_of, rational, sum_of


def checked(rows):
    """Return a matrix; raise MatrixError for one without rows or columns, or rows of different lengths."""
    found = tuple([tuple(row) for row in rows])
    if found == () or found[0] == () or any([len(row) != len(found[0]) for row in found]):
        raise MatrixError("there are no rows or columns, or rows have different lengths")
    return found


def need_square(rows):
    """Raise MatrixError for a matrix that is not square."""
    if len(rows) != len(rows[0]):
        raise MatrixError("a matrix is not square")


def unit(many):
    """Return the unit matrix."""
    return tuple([tuple([ONE if place == step else ZERO for step in range(many)]) for place in range(many)])


def turned_over(rows):
    """Return a matrix with rows and columns exchanged."""
    return tuple([tuple([row[place] for row in rows]) for place in range(len(rows[0]))])


def matrix_plus(one, other, factor=ONE):
    """Return a sum with a multiple of another matrix; raise MatrixError for other shapes."""
    if len(one) != len(other) or len(one[0]) != len(other[0]):
        raise MatrixError("matrices have other shapes")
    return tuple([
        tuple([sum_of(number, product_of(more, factor)) for number, more in zip(left, right)])
        for left, right in zip(one, other)
    ])


def matrix_times(one, other):
    """Return a product; raise MatrixError for shapes that do not fit."""
    if len(one[0]) != len(other):
        raise MatrixError("shapes do not fit")
    columns = turned_over(other)
    return tuple([tuple([dot(row, column) for column in columns]) for row in one])


def dot(one, other):
    """Return the sum of products of two rows."""
    found = ZERO
    for left, right in zip(one, other):
        found = sum_of(found, product_of(left, right))
    return found


def steps_form(rows):
    """Return (matrix in reduced rows, columns of the leading ones, determinant's factor).

    A square matrix's determinant is the factor times that of the matrix in reduced rows.
    """
    found, columns, factor = steps_by(Field(), rows)
    return tuple([tuple(row) for row in found]), tuple(columns), factor


def rank(rows):
    """Return the rank."""
    return len(steps_form(rows)[1])


def determinant(rows):
    """Return the determinant; raise MatrixError for a matrix that is not square."""
    need_square(checked(rows))
    _, columns, factor = steps_form(rows)
    return factor if len(columns) == len(rows) else ZERO


def inverse_matrix(rows):
    """Return the inverse; raise MatrixError if there is none."""
    need_square(checked(rows))
    joined = [tuple(row) + more for row, more in zip(rows, unit(len(rows)))]
    found, columns, _ = steps_form(joined)
    if columns != tuple(range(len(rows))):
        raise MatrixError("there is no inverse")
    return tuple([row[len(rows):] for row in found])


def null_space(rows):
    """Return a basis of the columns that a matrix takes to 0, each with 1 at a free place and 0 at the others."""
    return tuple(null_by(Field(), rows, len(rows[0])))


def solution(rows, values):
    """Return a column that a matrix takes to another one, 0 at free places, None if there is none."""
    if len(values) != len(rows):
        raise MatrixError("there is another number of values")
    many = len(rows[0])
    found, columns, _ = steps_form([tuple(row) + (worth,) for row, worth in zip(rows, values)])
    if many in columns:
        return None
    column = [ZERO] * many
    for row, place in zip(found, columns):
        column[place] = row[many]
    return tuple(column)


def characteristic(rows):
    """Return the polynomial whose roots are the values of a square matrix, with 1 as leading coefficient."""
    need_square(checked(rows))
    # Each coefficient is the one that keeps the next product's trace: Leverrier's way, which divides by its step alone.
    many, found = len(rows), [ONE]
    power = tuple([tuple([ZERO] * many) for _ in range(many)])
    for step in range(1, many + 1):
        power = matrix_times(rows, matrix_plus(power, unit(many), found[-1]))
        found.append(quotient_of(trace(power), rational(0 - step)))
    return tuple(reversed(found))


def trace(rows):
    """Return the sum of a square matrix's diagonal."""
    found = ZERO
    for place, row in enumerate(rows):
        found = sum_of(found, row[place])
    return found


def value_of_poly(one, rows):
    """Return a polynomial's value at a square matrix."""
    need_square(checked(rows))
    many = len(rows)
    found = tuple([tuple([ZERO] * many) for _ in range(many)])
    for number in reversed(one):
        found = matrix_plus(matrix_times(found, rows), unit(many), number)
    return found


def whole_steps(rows):
    """Return (matrix, left, right) of a whole matrix: left times it times right is a matrix with divisors in a row.

    Only places on the diagonal are not 0; each is from 0 on and divides the next one. left and right are whole and
    have whole inverses.
    """
    form = WholeForm(checked(rows))
    for top in range(min(len(form.rows), len(form.rows[0]))):
        while form.bring_least(top) and not form.is_done(top):
            form.lessen(top)
    form.turn_signs()
    columns = turned_over(form.columns)
    return tuple([tuple(row) for row in form.rows]), tuple([tuple(row) for row in form.left]), columns


class WholeForm:
    """A whole matrix on its way, and what was done to rows (as a matrix) and to columns (as a matrix turned over)."""

    def __init__(self, rows):
        self.rows = [list(row) for row in rows]
        self.left = whole_unit(len(rows))
        self.columns = whole_unit(len(rows[0]))

    def bring_least(self, top):
        """Bring the least number in size but 0 to a place of the diagonal; return False if there are only 0 left."""
        sizes = [
            (abs(self.rows[place][step]), place, step)
            for place in range(top, len(self.rows)) for step in range(top, len(self.rows[0]))
            if self.rows[place][step] != 0
        ]
        if sizes == []:
            return False
        _, place, step = min(sizes)
        self.rows[top], self.rows[place] = self.rows[place], self.rows[top]
        self.left[top], self.left[place] = self.left[place], self.left[top]
        for row in self.rows:
            row[top], row[step] = row[step], row[top]
        self.columns[top], self.columns[step] = self.columns[step], self.columns[top]
        return True

    def is_alone(self, top):
        """Return True if only 0 stands below a number of the diagonal and beside it."""
        return not any(self.rows[top][top + 1:]) and not any([row[top] for row in self.rows[top + 1:]])

    def undivided(self, top):
        """Return the place of the first later row that a number of the diagonal does not divide, None for none."""
        for place in range(top + 1, len(self.rows)):
            if any([number % self.rows[top][top] != 0 for number in self.rows[place]]):
                return place
        return None

    def is_done(self, top):
        """Return True if a number of the diagonal stands alone and divides all that follow."""
        return self.is_alone(top) and self.undivided(top) is None

    def lessen(self, top):
        """Take multiples of a number of the diagonal away from what stands below it and beside it."""
        if self.is_alone(top):
            self.add_row(top, self.undivided(top), 1)
        lead = self.rows[top][top]
        for place in range(top + 1, len(self.rows)):
            self.add_row(place, top, 0 - self.rows[place][top] // lead)
        for step in range(top + 1, len(self.rows[0])):
            factor = 0 - self.rows[top][step] // lead
            for row in self.rows:
                row[step] = row[step] + factor * row[top]
            self.columns[step] = whole_sum(self.columns[step], self.columns[top], factor)

    def add_row(self, place, other, factor):
        """Add a multiple of a row to another one."""
        self.rows[place] = whole_sum(self.rows[place], self.rows[other], factor)
        self.left[place] = whole_sum(self.left[place], self.left[other], factor)

    def turn_signs(self):
        """Bring the numbers of the diagonal to 0 and above."""
        for place in range(min(len(self.rows), len(self.rows[0]))):
            if self.rows[place][place] < 0:
                self.rows[place] = [0 - number for number in self.rows[place]]
                self.left[place] = [0 - number for number in self.left[place]]


def whole_unit(many):
    """Return the rows of the whole unit matrix."""
    return [[1 if place == step else 0 for step in range(many)] for place in range(many)]


def whole_sum(one, other, factor):
    """Return a row of whole numbers plus a multiple of another one."""
    return [number + factor * more for number, more in zip(one, other)]
