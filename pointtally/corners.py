"""Corners of halls whose rows are loosened, each by less than any fraction."""

from itertools import combinations

from pointtally.amounts import above_row
from pointtally.forms import form_sum, form_times, form_value
from pointtally.halls import conditions
from pointtally.matrices import determinant, inverted


def heads_of(hall, numbers):
    """Return the heads of the rows with these numbers."""
    k, _, rows = hall
    return tuple([rows[i][k + 1:] for i in numbers])


def headed(hall):
    """Return the numbers of the rows that have a head, ascending."""
    k, _, rows = hall
    return [i for i, row in enumerate(rows) if any(row[k + 1:])]


def bases(hall):
    """Return the tuple of all bases, ascending."""
    numbers = headed(hall)
    return tuple([basis for basis in combinations(numbers, int(hall[1])) if determinant(heads_of(hall, basis)) != 0])


def corner(hall, basis):
    """Return the amounts of the point at which the loosened rows of a basis are 0."""
    k, _, rows = hall
    table, size = inverted(heads_of(hall, basis))
    point = []
    for line in table:
        form, ts = (0,) * (k + 1), [0] * len(rows)
        for i, factor in zip(basis, line):
            form = form_sum(form, form_times(rows[i][:k + 1], -factor))
            ts[i] = -factor
        point.append((form, tuple(ts), size))
    return tuple(point)


def row_at(hall, point, size, i):
    """Return the amount, with 1 for its D, that is size times the loosened row number i at a corner."""
    k, _, rows = hall
    form, ts = form_times(rows[i][:k + 1], size), [0] * len(rows)
    ts[i] = size
    for entry, (own, own_ts, _) in zip(rows[i][k + 1:], point):
        if entry != 0:
            form = form_sum(form, form_times(own, entry))
            ts = form_sum(ts, form_times(own_ts, entry))
    return (form, tuple(ts), 1)


def corner_rows(hall, basis, point):
    """Return the feasible rows of a basis whose corner is known."""
    size = point[0][2] if point else 1
    numbers = [i for i in headed(hall) if i not in basis]
    return tuple([above_row(row_at(hall, point, size, i)) for i in numbers])


def feasible_rows(hall, basis):
    """Return the forms over the parameters that are from 0 on just where the other rows hold at the corner."""
    return corner_rows(hall, basis, corner(hall, basis))


def is_feasible(hall, basis, p):
    """Tell whether the corner of a basis keeps all rows at p."""
    for row in (*conditions(hall), *feasible_rows(hall, basis)):
        if form_value(row, p) < 0:
            return False
    return True


def corners_at(hall, p):
    """Return the tuple of all bases that are feasible at p, ascending."""
    return tuple([basis for basis in bases(hall) if is_feasible(hall, basis, p)])
