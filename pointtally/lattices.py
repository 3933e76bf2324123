"""Lattices, grids that start at 0, and the classes into which they part all whole tuples."""

from pointtally.grids import divided_grid, meet, whole_grid
from pointtally.matrices import turned
from pointtally.neighbours import left_by, sums_table


def lattice_of(k, pairs):
    """Return the table of the lattice on which each form, without its constant, is divisible by its number."""
    grid = whole_grid(k)
    for n, form in pairs:
        grid = meet(grid, divided_grid(k, n, (0, *form[1:])))
    return grid[0]


def index_in(table):
    """Return how many classes a lattice leaves."""
    size = 1
    for i, row in enumerate(table):
        size = size * row[i]
    return size


def class_starts(table):
    """Return one tuple of each class, ascending; its place is the number of the class."""
    found = [()]
    for i, row in enumerate(table):
        found = [(*start, entry) for start in found for entry in range(row[i])]
    return found


def class_number(table, t):
    """Return the number of the class of t."""
    number = 0
    for i, entry in enumerate(left_by(table, t)):
        number = number * table[i][i] + entry
    return number


def _is_within(table, other):
    """Tell whether a lattice lies within another one."""
    for column in turned(table, len(table)):
        if any(left_by(other, column)):
            return False
    return True


class Lattices:
    """Some lattices and all sums of them, the finest first, so that the last one has all whole tuples."""

    def __init__(self, k, tables):
        found = {whole_grid(k)[0]: True}
        waiting = list(tables)
        while waiting:
            table = waiting.pop()
            if table not in found:
                waiting += [sums_table(table, other) for other in found]
                found[table] = True
        self.tables = [table for _, table in sorted([(-index_in(table), table) for table in found])]
        self.sizes = [index_in(table) for table in self.tables]
        self.places = {table: i for i, table in enumerate(self.tables)}
        self.known_above = {}
        self.known_led = {}

    def above(self, i):
        """Return the numbers of the lattices next above lattice number i: none lies between."""
        if i not in self.known_above:
            found = []
            for j in range(i + 1, len(self.tables)):
                is_new = not any([_is_within(self.tables[near], self.tables[j]) for near in found])
                if is_new and _is_within(self.tables[i], self.tables[j]):
                    found.append(j)
            self.known_above[i] = found
        return self.known_above[i]

    def led(self, i, j):
        """Return for each class of lattice number i the number of its class by lattice number j, which holds it."""
        if (i, j) not in self.known_led:
            table = self.tables[j]
            self.known_led[(i, j)] = [class_number(table, start) for start in class_starts(self.tables[i])]
        return self.known_led[(i, j)]
