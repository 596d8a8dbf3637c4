"""Rows of numbers of a field: brought to steps, and what they take to 0."""


def steps_by(field, rows):
    """Return (rows in reduced steps, columns of the leading ones, factor).

    A square matrix's determinant is the factor times that of its rows in steps.
    """
    found, columns, factor = [list(row) for row in rows], [], field.one
    for column in range(width_of(found)):
        top = len(columns)
        place = first_used(field, found, column, top)
        if place is None:
            continue
        if place != top:
            found[top], found[place] = found[place], found[top]
            factor = field.minus(field.zero, factor)
        factor = field.times(factor, found[top][column])
        clear_column(field, found, top, column)
        columns.append(column)
    return found, columns, factor


def width_of(rows):
    """Return the length of the first row, 0 if there is none."""
    return len(rows[0]) if len(rows) > 0 else 0


def first_used(field, rows, column, top):
    """Return the first place from the top on at which a column is not 0, None if there is none."""
    for place in range(top, len(rows)):
        if rows[place][column] != field.zero:
            return place
    return None


def clear_column(field, rows, top, column):
    """Bring a row to 1 in a column, and all other rows to 0 there."""
    lead = rows[top][column]
    rows[top] = [field.over(number, lead) for number in rows[top]]
    for place in range(len(rows)):
        factor = rows[place][column]
        if place != top and factor != field.zero:
            rows[place] = [
                field.minus(number, field.times(factor, taken)) for number, taken in zip(rows[place], rows[top])
            ]


def null_by(field, rows, width):
    """Return a basis of the columns of a width that rows take to 0, each with 1 at a free place in turn."""
    steps, columns, _ = steps_by(field, rows)
    found = []
    for free in range(width):
        if free not in columns:
            column = [field.zero] * width
            column[free] = field.one
            for step, place in enumerate(columns):
                column[place] = field.minus(field.zero, steps[step][free])
            found.append(tuple(column))
    return found
