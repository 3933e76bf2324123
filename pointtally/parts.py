"""A tally as parts: where one of them holds, no other one does, and its polynomial is the tally's value."""

from math import lcm

from pointtally.cells import needed_rows
from pointtally.cuttings import Cutting
from pointtally.forms import form_plus, form_times, form_value, letter_form
from pointtally.grids import meet, whole_grid
from pointtally.lattices import class_number, class_starts
from pointtally.polys import number_lot, poly_of
from pointtally.rays import has_ray
from pointtally.searching import whole_point, whole_points
from pointtally.tallies import tidied, value
from pointtally.terms import gates_of_grid


def _primes_of(n):
    """Return the primes whose product is n, ascending."""
    found, prime = [], 2
    while n > 1:
        if n % prime == 0:
            found.append(prime)
            n = n // prime
        else:
            prime += 1
    return found


def _levels(gates):
    """Return pairs (place of a gate, part of its n): from each to the next one a prime more is told."""
    told = []
    for i, (n, _) in enumerate(gates):
        part = 1
        for prime in _primes_of(n):
            part = part * prime
            told.append((i, part))
    return told


def class_polys(k, told):
    """Return (gates, classes) of a class sum: at p of a class, gates leave what it tells first, its poly is there.

    classes are pairs (rests by the gates' n, POLY over the k letters).
    """
    grid, by = whole_grid(k), 1
    for table, _, (own, _) in told.parts:
        grid, by = meet(grid, (table, (0,) * k)), lcm(by, own)
    gates = gates_of_grid(grid)
    classes, known = [], {}
    for start in class_starts(grid[0]):
        terms = {}
        for table, _, (own, lines) in told.parts:
            place = class_number(table, start)
            for exponents, line in lines.items():
                terms[exponents] = terms.get(exponents, 0) + line[place] * (by // own)
        key = tuple(sorted(terms.items()))
        if key not in known:
            known[key] = poly_of((terms, by))
        classes.append((tuple([form_value(form, start) % n for n, form in gates]), known[key]))
    return (gates, classes)


def _joined_classes(gates, classes):
    """Return pairs (gates, POLY): classes with one POLY are taken together where few gates tell them."""
    levels = _levels(gates)
    waiting, found = [(0, (), classes)], []
    while waiting:
        level, told, left = waiting.pop()
        poly = left[0][1]
        if all([other == poly for _, other in left]):
            if poly:
                found.append((_gates_of(gates, told), poly))
        else:
            place, size = levels[level]
            groups = {}
            for rests, other in left:
                groups.setdefault(rests[place] % size, []).append((rests, other))
            for rest, group in groups.items():
                waiting.append((level + 1, (*told, (place, size, rest)), group))
    return found


def _gates_of(gates, told):
    """Return gates of which each tells the last of what its form leaves."""
    last = {}
    for place, size, rest in told:
        last[place] = (size, form_plus(gates[place][1], -rest))
    return tuple([(n, tuple([entry % n for entry in form])) for n, form in list(last.values())])


def _point_parts(k, points, terms):
    """Return the parts of some single points."""
    told = []
    for point in points:
        a, b = value(terms, point)
        if a != 0:
            rows = []
            for i, entry in enumerate(point):
                row = form_plus(letter_form(i, k), -entry)
                rows += [row, form_times(row, -1)]
            told.append((tuple(rows), (), poly_of(number_lot(a, b, k))))
    return told


def _count_of_classes(k, told):
    """Return how many classes a class sum has at most."""
    size = 1
    for _, own, _ in told.parts:
        size = lcm(size, own)
    return size


def _cell_parts(k, cell, told, terms):
    """Return the parts of a cell."""
    rows = needed_rows(cell)
    if whole_point(k, rows) is None:
        return []
    most = _count_of_classes(k, told)
    if most > 1 and not has_ray(0, k, rows):
        points = whole_points(k, rows, most + 1)
        if len(points) <= most:
            return _point_parts(k, points, terms)
    gates, classes = class_polys(k, told)
    return [(rows, own, poly) for own, poly in _joined_classes(gates, classes)]


def parts(tally, k):
    """Return parts (rows, gates, poly) of a tally: at most one holds at each p, and where none does the value is 0."""
    terms = tidied(tally)
    if k == 0:
        return tuple([((), (), poly) for _, _, poly in _point_parts(0, [()], terms)])
    cutting = Cutting(k, terms)
    found = []
    while True:
        told = cutting.next_cell()
        if told is None:
            return tuple(found)
        found += _cell_parts(k, told[1], told[2], terms)
