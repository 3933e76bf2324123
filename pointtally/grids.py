"""Grids: lots of whole points, each with one writing."""

from math import gcd

from pointtally.errors import NotFit, NotGrid, TooMany
from pointtally.forms import (
    MOST_LETTERS, are_numbers, form_plus, form_sum, form_times, form_value, letter_form, product_sum, put_in,
)
from pointtally.matrices import swept, turned

MOST_OTHERS = 10000


def _is_grid_row(row, i, m, start):
    """Tell of any value whether it may be row i of a grid over m letters, with such a start."""
    if not are_numbers(row, m) or row[i] < 1 or any(row[i + 1:]):
        return False
    return all([0 <= entry < row[i] for entry in (*row[:i], start)])


def is_grid(value):
    """Tell of any value whether it is a grid."""
    if not isinstance(value, tuple) or len(value) != 2:
        return False
    table, s = value
    if not isinstance(table, tuple) or len(table) > MOST_LETTERS or not are_numbers(s, len(table)):
        return False
    return all([_is_grid_row(row, i, len(table), s[i]) for i, row in enumerate(table)])


def need_grid(value):
    """Return any value that is a grid."""
    if not is_grid(value):
        raise NotGrid()
    return value


def whole_grid(m):
    """Return the grid of all points."""
    return (tuple([letter_form(i, m)[1:] for i in range(m)]), (0,) * m)


def size_of(grid):
    """Return the product of the diagonal entries."""
    size = 1
    for i, row in enumerate(grid[0]):
        size = size * row[i]
    return size


def grid_forms(grid):
    """Return the entries of the grid's points as forms over the entries of y."""
    table, s = grid
    return tuple([(start, *row) for start, row in zip(s, table)])


def point_at(grid, y):
    """Return the point of y."""
    return tuple([form_value(form, y) for form in grid_forms(grid)])


def _unwound(table, column):
    """Return the whole y that the table of a grid takes to the column, None if there is none."""
    y = []
    for i, row in enumerate(table):
        rest = column[i] - product_sum(row, y)
        if rest % row[i] != 0:
            return None
        y.append(rest // row[i])
    return tuple(y)


def place_in(grid, t):
    """Return the y of a point, None if t is none."""
    table, s = grid
    return _unwound(table, [a - b for a, b in zip(t, s)])


def form_on(grid, form):
    """Return the form over the entries of y with the values of form at the points."""
    return put_in(form, grid_forms(grid), len(grid[1]))


def _one_writing(table, s):
    """Return the grid of a table with entries above 0 on the diagonal and 0 behind it, and any start."""
    m = len(s)
    rows = [[*row, start] for row, start in zip(table, s)]
    for i in range(m):
        for column in list(range(i)) + [m]:
            times = rows[i][column] // rows[i][i]
            if times != 0:
                for row in rows[i:]:
                    row[column] -= times * row[i]
    return (tuple([tuple(row[:m]) for row in rows]), tuple([row[m] for row in rows]))


def bezout(a, b):
    """Return (g, x, y): g is the greatest common part of a and b from 0 on, and g = x * a + y * b."""
    one, other = (abs(a), int(a > 0) - int(a < 0), 0), (abs(b), 0, int(b > 0) - int(b < 0))
    while other[0] != 0:
        times = one[0] // other[0]
        one, other = other, form_sum(one, form_times(other, -times))
    return one


def _take_in(columns, vector, size):
    """Change the columns, each with 0 ahead of its place, so that their sums hold the vector, too.

    As size times each unit vector is among the sums already, entries are kept below size.
    """
    rest = [entry % size for entry in vector]
    for i, own in enumerate(list(columns)):
        if rest[i] != 0:
            part, x, y = bezout(own[i], rest[i])
            p, q = own[i] // part, rest[i] // part
            columns[i] = [(x * a + y * b) % size for a, b in zip(own, rest)]
            rest = [(p * b - q * a) % size for a, b in zip(own, rest)]


def grid_of(vectors, s):
    """Return the grid of all s plus whole sums of the vectors."""
    m = len(s)
    found, part = swept(vectors)
    if found < m:
        raise NotGrid()
    columns = [form_times(letter_form(i, m)[1:], abs(part)) for i in range(m)]
    for vector in vectors:
        _take_in(columns, vector, abs(part))
    return _one_writing(turned(columns, m), s)


def _grid_by(forms):
    """Return the grid whose points are the values of forms with entries above 0 on the diagonal, 0 behind."""
    return _one_writing([form[1:] for form in forms], [form[0] for form in forms])


def grid_within(grid, inner):
    """Return the grid of the points of grid whose y are points of inner."""
    return _grid_by([form_on(inner, form) for form in grid_forms(grid)])


def leading(grid, count):
    """Return the grid of the first count entries of the points."""
    table, s = grid
    return (tuple([row[:count] for row in table[:count]]), s[:count])


def place_map(grid, inner):
    """Return (W, w), by which the places in inner lead to those in grid; None if grid does not hold inner."""
    m = len(grid[1])
    start = place_in(grid, inner[1])
    columns = [_unwound(grid[0], column) for column in turned(inner[0], m)]
    if start is None or None in columns:
        return None
    return (turned(columns, m), start)


def _filled(form, parts, start, rest):
    """Return the least entries from 0 on, from number start on, with which rest and their parts are divisible.

    parts[j] is the greatest common part of the divisor and the coefficients from number j on, so that
    entry j can be chosen without a look at those behind it.
    """
    entries = []
    for j in range(start, len(form) - 1):
        steps = parts[j + 1] // parts[j]
        inverse = bezout(form[j + 1] // parts[j], steps)[1]
        entries.append((-(rest // parts[j]) * inverse) % steps)
        rest = rest + form[j + 1] * entries[-1]
    return entries


def divided_grid(m, n, form):
    """Return the grid of all points at which n divides the form's value, None if there are none."""
    parts = [n]
    for entry in form[:0:-1]:
        parts.append(gcd(parts[-1], entry))
    parts = parts[::-1]
    if form[0] % parts[0] != 0:
        return None
    columns = []
    for i in range(m):
        lead = parts[i + 1] // parts[i]
        columns.append([0] * i + [lead] + _filled(form, parts, i + 1, form[i + 1] * lead))
    return _one_writing(turned(columns, m), _filled(form, parts, 0, form[0]))


def meet(one, other):
    """Return the grid of the common points of two grids, None if there are none."""
    m = len(one[1])
    if len(other[1]) != m:
        raise NotFit()
    table, s = other
    if table == one[0]:
        return one if s == one[1] else None
    forms, places = list(grid_forms(one)), []
    for i, row in enumerate(table):
        # What is left of entry i for the place number i: it must be divisible by the diagonal entry.
        left = form_plus(forms[i], -s[i])
        for entry, place in zip(row, places):
            if entry != 0:
                left = form_sum(left, form_times(place, -entry))
        if row[i] > 1:
            inner = divided_grid(m, row[i], left)
            if inner is None:
                return None
            forms = [form_on(inner, form) for form in forms]
            places = [form_on(inner, place) for place in places]
            left = tuple([entry // row[i] for entry in form_on(inner, left)])
        places.append(left)
    return _grid_by(forms)


def others(grid):
    """Return all grids with the same table and another start, ascending."""
    table, s = grid
    if size_of(grid) - 1 > MOST_OTHERS:
        raise TooMany(MOST_OTHERS)
    starts = [()]
    for i, row in enumerate(table):
        starts = [(*start, entry) for start in starts for entry in range(row[i])]
    return tuple([(table, start) for start in starts if start != s])
