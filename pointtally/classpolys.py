"""Terms without rows as polynomials that hang on the class of p by a lattice, and sums of them with one writing.

A SPREAD is (by, lines): lines a dict by the exponents of p, of lists with a number for each class of a lattice. Its
value at p is the sum of the numbers of p's class times the powers of p, divided by by.
"""

from math import lcm

from pointtally.forms import common_part, form_value, put_in
from pointtally.grids import form_on, place_map, point_at
from pointtally.lattices import Lattices, class_number, class_starts, index_in, lattice_of
from pointtally.polys import form_lot, lot_of, lots_sum, put_lots
from pointtally.steppolys import normal
from pointtally.terms import gates_of_grid, grid_of_gates

MOST_KEPT = 10 ** 6


def _power_parts(k, steps, poly):
    """Return {rests: lot} of a step polynomial, lots by (exponents of p, exponents of what the rests leave).

    The steps are normal. A step is its form less what it leaves by its n, divided by n. Products of the same rests
    stand together.
    """
    rests = [step for step in steps if step[0] > 1]
    wide = k + len(rests)
    lots = []
    for n, form in steps:
        told = list(form) + [0] * len(rests)
        if n > 1:
            told[k + 1 + rests.index((n, form))] = -1
        lots.append(form_lot(tuple(told), n))
    terms, by = put_lots(lot_of(poly), lots, wide)
    groups = {}
    for exponents, number in terms.items():
        used = [i for i, exponent in enumerate(exponents[k:]) if exponent > 0]
        own = tuple([exponents[k + i] for i in used])
        groups.setdefault(tuple([rests[i] for i in used]), {})[(exponents[:k], own)] = number
    return {own: (group, by) for own, group in groups.items()}


def _class_values(form, sizes):
    """Return the values of a form at all tuples of entries from 0 to below sizes, ascending."""
    told = [form[0]]
    for entry, size in zip(form[1:], sizes):
        steps = [entry * i for i in range(size)]
        told = [number + step for number in told for step in steps]
    return told


def _products(left, exponents, known):
    """Return the products of what rests leave, raised to exponents, for each class; known keeps them."""
    if exponents not in known:
        place = [i for i, exponent in enumerate(exponents) if exponent > 0][0]
        lower = tuple([exponent - int(i == place) for i, exponent in enumerate(exponents)])
        known[exponents] = [a * b for a, b in zip(_products(left, lower, known), left[place])]
    return known[exponents]


class Rests:
    """Tells the classes that rests leave on the grids of gates, small ones each once."""

    def __init__(self, k):
        self.k = k
        self.fronts = {}
        self.tables = {}
        self.known = {}
        self.left = MOST_KEPT

    def front_of(self, gates):
        """Return the grid of gates, None if they hold nowhere."""
        if gates not in self.fronts:
            self.fronts[gates] = grid_of_gates(self.k, gates)
        return self.fronts[gates]

    def table(self, front, rests):
        """Return the table of the lattice by which rests are alike on the grid of gates, and beside it."""
        key = (front, rests)
        if key not in self.tables:
            self.tables[key] = lattice_of(self.k, (*gates_of_grid(front), *rests))
        return self.tables[key]

    def classes(self, front, rests):
        """Return (table of a lattice, left, numbers): left are lists of what rests leave on its classes in a grid.

        The first list is of 1; numbers are those of these classes among all, None if they are all.
        """
        key = (front, rests)
        if key in self.known:
            return self.known[key]
        told = _told_classes(front, rests, self.table(front, rests))
        size = len(told[1]) * len(told[1][0])
        if size <= self.left:
            self.left -= size
            self.known[key] = told
        return told


def _told_classes(front, rests, table):
    """Return what Rests tells of classes."""
    inner, _ = place_map(front, (table, front[1]))
    sizes = [row[i] for i, row in enumerate(inner)]
    left = [[number % n for number in _class_values(form_on(front, form), sizes)] for n, form in rests]
    numbers = None
    if gates_of_grid(front):
        numbers = [class_number(table, point_at(front, start)) for start in class_starts(inner)]
    return (table, [[1] * index_in(inner), *left], numbers)


def _table_and_spread(told, lot):
    """Return (table of a lattice, spread by its classes) of a lot on classes that Rests tells, and 0 beside them."""
    table, (units, *left), numbers = told
    terms, by = lot
    known, lines = {(0,) * len(left): units}, {}
    for (exponents, back), number in terms.items():
        products = _products(left, back, known)
        if exponents in lines:
            lines[exponents] = [a + number * b for a, b in zip(lines[exponents], products)]
        else:
            lines[exponents] = [number * b for b in products]
    if numbers is not None:
        lines = {exponents: _scattered(line, numbers, index_in(table)) for exponents, line in lines.items()}
    return (table, short_spread((by, lines)))


def _groups_of(k, term, rests):
    """Return pairs (grid of gates and rests, lot) that add up to a term, whatever its rows are."""
    _, gates, steps, poly = term
    front = rests.front_of(gates)
    steps, poly = normal(k, (steps, poly))
    if front is None or len(poly) == 0:
        return []
    return [((front, own), lot) for own, lot in _power_parts(k, steps, poly).items()]


def _scattered(line, numbers, size):
    """Return the line of all classes in which those with the given numbers have the entries, and the others 0."""
    told = [0] * size
    for number, entry in zip(numbers, line):
        told[number] = entry
    return told


def short_spread(spread):
    """Return the spread without lines of 0 and without a common part."""
    by, lines = spread
    kept = {exponents: line for exponents, line in lines.items() if any(line)}
    part = by
    for line in kept.values():
        if part > 1:
            part = common_part([part, *line])
    if part > 1:
        kept = {exponents: [entry // part for entry in line] for exponents, line in kept.items()}
    return (by // part, kept)


def spread_sum(one, other):
    """Return the sum of two spreads by one lattice."""
    (by, lines), (other_by, other_lines) = one, other
    size = lcm(by, other_by)
    n, n_other = size // by, size // other_by
    total = {exponents: [n * entry for entry in line] for exponents, line in lines.items()}
    for exponents, line in other_lines.items():
        if exponents in total:
            total[exponents] = [a + n_other * b for a, b in zip(total[exponents], line)]
        else:
            total[exponents] = [n_other * entry for entry in line]
    return (size, total)


def _less_means(spread, led, size):
    """Return (spread less the means of classes that are led to one, spread of these means)."""
    by, lines = spread
    ratio = len(led) // size
    rest, means = {}, {}
    for exponents, line in lines.items():
        sums = [0] * size
        for place, entry in zip(led, line):
            sums[place] += entry
        means[exponents] = sums
        rest[exponents] = [ratio * entry - sums[place] for place, entry in zip(led, line)]
    return (short_spread((by * ratio, rest)), short_spread((by * ratio, means)))


def gathered_spreads(parts):
    """Return by their numbers the sums of spreads, given as pairs (number, spread)."""
    waiting = {}
    for i, spread in parts:
        waiting[i] = spread_sum(waiting[i], spread) if i in waiting else spread
    return waiting


def settled_spreads(lattices, spreads):
    """Return by their numbers the spreads by lattices that spreads add up to, in one writing.

    What a spread has in common with the lattices above goes up to these: sums are 0 exactly if nothing is left.
    """
    waiting, found = {i: spreads[i] for i in spreads}, {}
    for i in range(len(lattices.tables)):
        if i in waiting:
            own = short_spread(waiting[i])
            for j in lattices.above(i):
                own, means = _less_means(own, lattices.led(i, j), lattices.sizes[j])
                if means[1]:
                    waiting[j] = spread_sum(waiting[j], means) if j in waiting else means
            if own[1]:
                found[i] = own
    return found


class ToldTerms:
    """Terms, whatever their rows are, as what hangs on classes by lattices."""

    def __init__(self, k, terms):
        self.source = Rests(k)
        self.groups = [_groups_of(k, term, self.source) for term in terms]
        tables = [self.source.table(front, own) for told in self.groups for (front, own), _ in told]
        self.lattices = Lattices(k, tables)

    def settled(self, places):
        """Return the settled spreads that the terms in some places add up to."""
        found = {}
        for place in places:
            for key, lot in self.groups[place]:
                found.setdefault(key, []).append(lot)
        waiting = {}
        for (front, own), lots in found.items():
            table, spread = _table_and_spread(self.source.classes(front, own), lots_sum(lots))
            i = self.lattices.places[table]
            waiting[i] = spread_sum(waiting[i], spread) if i in waiting else spread
        return settled_spreads(self.lattices, waiting)


class ClassSum:
    """A function of p that settled spreads add up to."""

    def __init__(self, lattices, spreads):
        self.parts = [(lattices.tables[i], lattices.sizes[i], spreads[i]) for i in spreads]

    def is_nought_at(self, p):
        """Tell whether it is 0 at p."""
        powers = {}
        above, below = 0, 1
        for table, _, (by, lines) in self.parts:
            place, total = class_number(table, p), 0
            for exponents, line in lines.items():
                if exponents not in powers:
                    powers[exponents] = power_product(p, exponents)
                total += line[place] * powers[exponents]
            above, below = above * by + total * below, below * by
        return above == 0

    def count_to_end(self):
        """Return a number of points in a row, along any way: if it is 0 at them, so it is all along the way."""
        total = 0
        for _, size, (_, lines) in self.parts:
            # On each class it is a polynomial, so that a power of the step by classes, less 1, takes it to 0.
            total += size * (1 + max([sum(exponents) for exponents in lines]))
        return total

    def led(self, forms, n):
        """Return the function over n letters that comes of forms for its letters."""
        told = []
        for table, _, spread in self.parts:
            told.append(_led_spread(table, spread, forms, n))
        lattices = Lattices(n, [table for table, _ in told])
        parts = [(lattices.places[table], spread) for table, spread in told]
        return ClassSum(lattices, settled_spreads(lattices, gathered_spreads(parts)))


def power_product(p, exponents):
    """Return the product of numbers raised to exponents."""
    total = 1
    for number, exponent in zip(p, exponents):
        for _ in range(exponent):
            total = total * number
    return total


def _led_spread(table, spread, forms, n):
    """Return (table, spread) over n letters of a spread by the classes of a lattice, with forms for its letters."""
    by, lines = spread
    gates = gates_of_grid((table, (0,) * len(table)))
    heads = [(0, *form[1:]) for form in forms]
    own = lattice_of(n, [(size, put_in(form, heads, n)) for size, form in gates])
    places = []
    for start in class_starts(own):
        places.append(class_number(table, [form_value(form, start) for form in forms]))
    lots, told = [form_lot(form) for form in forms], {}
    for exponents, line in lines.items():
        here = [line[place] for place in places]
        for more, number in put_lots(({exponents: 1}, 1), lots, n)[0].items():
            old = told.get(more, [0] * len(here))
            told[more] = [a + number * b for a, b in zip(old, here)]
    return (own, short_spread((by, told)))


def class_sum(k, terms):
    """Return the function that terms add up to, whatever their rows are."""
    told = ToldTerms(k, terms)
    return ClassSum(told.lattices, told.settled(list(range(len(terms)))))
