"""Grids: lots of whole points, each with one writing."""

from math import gcd

from pointtally.errors import NotFit, NotGrid, TooMany
from pointtally.forms import (
    MOST_LETTERS, are_numbers, form_plus, form_sum, form_times, form_value, letter_form, product_sum, put_in,
)
from pointtally.matrices import swept, turned

MOST_OTHERS = 10000


def _is_grid_row(row, i, m, start):
    """Tell of any value whether it may be row i of a grid over m letters, with such a start."""
    if not are_numbers(row, m) or row[i] < 1 or any(row[i + 1:]):
        return False
    return all([0 <= entry < row[i] for entry in (*row[:i], start)])


def is_grid(value):
    """Tell of any value whether it is a grid."""
    if not isinstance(value, tuple) or len(value) != 2:
        return False
    table, s = value
    if not isinstance(table, tuple) or len(table) > MOST_LETTERS or not are_numbers(s, len(table)):
        return False
    return all([_is_grid_row(row, i, len(table), s[i]) for i, row in enumerate(table)])


def need_grid(value):
    """Return any value that is a grid."""
    if not is_grid(value):
        raise NotGrid()
    return value


def whole_grid(m):
    """Return the grid of all points."""
    return (tuple([letter_form(i, m)[1:] for i in range(m)]), (0,) * m)


def size_of(grid):
    """Return the product of the diagonal entries."""
    size = 1
    for i, row in enumerate(grid[0]):
        size = size * row[i]
    return size


def grid_forms(grid):
    """Return the entries of the grid's points as forms over the entries of y."""
    table, s = grid
    return tuple([(start, *row) for start, row in zip(s, table)])


def point_at(grid, y):
    """Return the point of y."""
    return tuple([form_value(form, y) for form in grid_forms(grid)])


def _unwound(table, column):
    """Return the whole y that the table of a grid takes to the column, None if there is none."""
    y = []
    for i, row in enumerate(table):
        rest = column[i] - product_sum(row, y)
        if rest % row[i] != 0:
            return None
        y.append(rest // row[i])
    return tuple(y)


def place_in(grid, t):
    """Return the y of a point, None if t is none."""
    table, s = grid
    return _unwound(table, [a - b for a, b in zip(t, s)])


def form_on(grid, form):
    """Return the form over the entries of y with the values of form at the points."""
    return put_in(form, grid_forms(grid), len(grid[1]))


def _one_writing(table, s):
    """Return the grid of a table with entries above 0 on the diagonal and 0 behind it, and any start."""
    m = len(s)
    rows = [[*row, start] for row, start in zip(table, s)]
    for i in range(m):
        for column in list(range(i)) + [m]:
            times = rows[i][column] // rows[i][i]
            if times != 0:
                for row in rows[i:]:
                    row[column] -= times * row[i]
    return (tuple([tuple(row[:m]) for row in rows]), tuple([row[m] for row in rows]))


def bezout(a, b):
    """Return (g, x, y): g is the greatest common part of a and b from 0 on, and g = x * a + y * b."""
    x, y, next_x, next_y = int(a > 0) - int(a < 0), 0, 0, int(b > 0) - int(b < 0)
    a, b = abs(a), abs(b)
    while b != 0:
        times = a // b
        a, b = b, a - times * b
        x, next_x = next_x, x - times * next_x
        y, next_y = next_y, y - times * next_y
    return (a, x, y)


def _take_in(columns, vector, size):
    """Change the columns, each with 0 ahead of its place, so that their sums hold the vector, too.

    As size times each unit vector is among the sums already, entries are kept below size.
    """
    rest = [entry % size for entry in vector]
    for i, own in enumerate(list(columns)):
        if rest[i] != 0:
            part, x, y = bezout(own[i], rest[i])
            p, q = own[i] // part, rest[i] // part
            columns[i] = [(x * a + y * b) % size for a, b in zip(own, rest)]
            rest = [(p * b - q * a) % size for a, b in zip(own, rest)]


def grid_of(vectors, s):
    """Return the grid of all s plus whole sums of the vectors."""
    m = len(s)
    found, part = swept(vectors)
    if found < m:
        raise NotGrid()
    columns = [form_times(letter_form(i, m)[1:], abs(part)) for i in range(m)]
    for vector in vectors:
        _take_in(columns, vector, abs(part))
    return _one_writing(turned(columns, m), s)


def _grid_by(forms):
    """Return the grid whose points are the values of forms with entries above 0 on the diagonal, 0 behind."""
    return _one_writing([form[1:] for form in forms], [form[0] for form in forms])


def grid_within(grid, inner):
    """Return the grid of the points of grid whose y are points of inner."""
    return _grid_by([form_on(inner, form) for form in grid_forms(grid)])


def leading(grid, count):
    """Return the grid of the first count entries of the points."""
    table, s = grid
    return (tuple([row[:count] for row in table[:count]]), s[:count])


def place_map(grid, inner):
    """Return (W, w), by which the places in inner lead to those in grid; None if grid does not hold inner."""
    m = len(grid[1])
    start = place_in(grid, inner[1])
    columns = [_unwound(grid[0], column) for column in turned(inner[0], m)]
    if start is None or None in columns:
        return None
    return (turned(columns, m), start)


class Divisor:
    """Tells at which points a number divides a form.

    parts[j] is the greatest common part of the number and the coefficients from number j on, so that entry j can be
    chosen, out of so many as steps[j] tells, without a look at those behind it.
    """

    def __init__(self, n, form):
        self.heads = form[1:]
        self.parts = [n]
        for entry in form[:0:-1]:
            self.parts.append(gcd(self.parts[-1], entry))
        self.parts = self.parts[::-1]
        self.steps, self.inverses = [], []
        for j, head in enumerate(self.heads):
            step = self.parts[j + 1] // self.parts[j]
            self.steps.append(step)
            self.inverses.append(bezout(head // self.parts[j], step)[1] if step > 1 else 0)

    def filled(self, start, rest):
        """Return the least entries from 0 on, from number start on, with which rest and their parts are divisible."""
        entries = []
        for j in range(start, len(self.heads)):
            entry = 0
            if self.steps[j] > 1:
                entry = -(rest // self.parts[j]) * self.inverses[j] % self.steps[j]
                rest = rest + self.heads[j] * entry
            entries.append(entry)
        return entries


def divided_grid(m, n, form):
    """Return the grid of all points at which n divides the form's value, None if there are none."""
    divisor = Divisor(n, form)
    if form[0] % divisor.parts[0] != 0:
        return None
    columns = []
    for i, step in enumerate(divisor.steps):
        columns.append([0] * i + [step] + divisor.filled(i + 1, form[i + 1] * step))
    return _one_writing(turned(columns, m), divisor.filled(0, form[0]))


def _long_rows(grid):
    """Return how many rows of a grid have more than 1 on the diagonal; all other rows are unit rows."""
    return len([i for i, row in enumerate(grid[0]) if row[i] > 1])


def meet(one, other):
    """Return the grid of the common points of two grids, None if there are none."""
    m = len(one[1])
    if len(other[1]) != m:
        raise NotFit()
    if other[0] == one[0]:
        return one if other[1] == one[1] else None
    if _long_rows(other) > _long_rows(one):
        one, other = other, one
    forms, places = grid_forms(one), {}
    for i, row in enumerate(other[0]):
        if row[i] > 1:
            # What is left of entry i for the place number i: it must be divisible by the diagonal entry.
            left = form_plus(forms[i], -other[1][i])
            for j, entry in enumerate(row[:i]):
                if entry != 0:
                    left = form_sum(left, form_times(places.get(j, forms[j]), -entry))
            inner = divided_grid(m, row[i], left)
            if inner is None:
                return None
            letters = grid_forms(inner)
            forms = [put_in(form, letters, m) for form in forms]
            places = {j: put_in(place, letters, m) for j, place in places.items()}
            places[i] = tuple([entry // row[i] for entry in put_in(left, letters, m)])
    return _grid_by(forms)


def others(grid):
    """Return all grids with the same table and another start, ascending."""
    table, s = grid
    if size_of(grid) - 1 > MOST_OTHERS:
        raise TooMany(MOST_OTHERS)
    starts = [()]
    for i, row in enumerate(table):
        starts = [(*start, entry) for start in starts for entry in range(row[i])]
    return tuple([(table, start) for start in starts if start != s])
