"""Tables of integers: determinants, adjoints, ranks, solutions."""

from pointtally.errors import Singular
from pointtally.forms import product_sum
from pointtally.fractions import fraction


def _cleared(row, lead, column, last):
    """Return a row with 0 in a column, by the row that leads there; last is the lead before."""
    here, factor = lead[column], row[column]
    return [(here * a - factor * b) // last for a, b in zip(row, lead)]


def swept(rows):
    """Return the rank of some rows and the determinant of a part of that size that is not 0.

    The part is the whole if rows are a table of full rank. Each entry on the way is the determinant of
    some part, so that the divisions leave no rest and the entries stay small.
    """
    open_rows = [list(row) for row in rows]
    width = len(rows[0]) if rows else 0
    rank_so_far, last, sign = 0, 1, 1
    for column in range(width):
        places = [i for i, row in enumerate(open_rows) if row[column] != 0]
        if places:
            lead = open_rows.pop(places[0])
            # Taking the row out moves it ahead of as many others as its place tells.
            if places[0] % 2 == 1:
                sign = -sign
            open_rows = [_cleared(row, lead, column, last) for row in open_rows]
            last = lead[column]
            rank_so_far += 1
    return (rank_so_far, sign * last)


def determinant(table):
    """Return the determinant of a table."""
    size, part = swept(table)
    return part if size == len(table) else 0


def _cofactor(table, i, j):
    """Return the determinant without row i and column j, with the sign of that place."""
    rest = [(*row[:j], *row[j + 1:]) for row in (*table[:i], *table[i + 1:])]
    part = determinant(rest)
    return part if (i + j) % 2 == 0 else -part


def adjoint(table):
    """Return the table whose product with table is the determinant times the unit table."""
    m = len(table)
    return tuple([tuple([_cofactor(table, j, i) for j in range(m)]) for i in range(m)])


def inverted(table):
    """Return (numbers, D): numbers divided by D is the inverse of a table, D the absolute value of its determinant."""
    m = len(table)
    rows = [[*row, *[int(i == j) for j in range(m)]] for i, row in enumerate(table)]
    last = 1
    for column in range(m):
        places = [i for i in range(column, m) if rows[i][column] != 0]
        if len(places) == 0:
            raise Singular()
        lead = rows.pop(places[0])
        rows = [_cleared(row, lead, column, last) for row in rows]
        rows.insert(column, lead)
        last = lead[column]
    # What is left of the table is the determinant times the unit table, but for a sign for rows that moved.
    sign = 1 if last > 0 else -1
    return (tuple([tuple([sign * entry for entry in row[m:]]) for row in rows]), sign * last)


def turned(rows, width):
    """Return the columns of some rows, of which each has this width, as rows."""
    return tuple([tuple([row[j] for row in rows]) for j in range(width)])


def times_row(row, table):
    """Return the row times the table."""
    return times_column(turned(table, len(row)), row)


def times_column(table, column):
    """Return the table times the column."""
    return tuple([product_sum(row, column) for row in table])


def times_table(one, other):
    """Return the product of two tables of one size."""
    return tuple([times_row(row, other) for row in one])


def rank(rows):
    """Return how many rows at most are independent."""
    return swept(rows)[0]


def parts_of(rays, w):
    """Return (numbers, D): D times w is the sum of the numbers times the rays."""
    whole = determinant(rays)
    if whole == 0:
        raise Singular()
    numbers = [determinant((*rays[:i], w, *rays[i + 1:])) for i in range(len(rays))]
    if whole < 0:
        numbers = [-number for number in numbers]
    return (tuple(numbers), abs(whole))


def solved(table, column):
    """Return the tuple of fractions that the table takes to the column."""
    numbers, size = parts_of(turned(table, len(table)), column)
    return tuple([fraction(number, size) for number in numbers])
