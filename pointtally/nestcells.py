"""The cells that nests touch, as formulas over sizes and indexes."""

from pointtally.forms import form_plus, form_times, led_form, letter_form
from pointtally.formulas import FALSE
from pointtally.nestforms import counters_of, difference, round_parts
from pointtally.nestsolving import Solved


def any_of(formulas):
    """Return the formula that holds where some formula does, each unlike one once."""
    unlike = []
    for formula in formulas:
        if formula != FALSE and formula not in unlike:
            unlike.append(formula)
    return unlike[0] if len(unlike) == 1 else ("or", *unlike)


def indexes_of(statements, array):
    """Return how many indexes an array has, 0 if it is not touched."""
    for touches, _ in statements:
        for _, own, indexes in touches:
            if own == array:
                return len(indexes)
    return 0


def touches_by(touches, array, kind):
    """Return the unlike indexes by which touches of a kind touch an array."""
    found = []
    for own, name, indexes in touches:
        if name == array and kind in (own, "any") and indexes not in found:
            found.append(indexes)
    return found


class Places:
    """Letters: first some outer ones that begin with the sizes, then cells' indexes, then counters of a statement."""

    def __init__(self, k, outer, m, chain):
        self.k = k
        self.first = outer
        self.fixed = outer + m
        self.n = outer + m + counters_of(chain)
        self.chain = chain

    def letter(self, i):
        """Return the letter number i as a form."""
        return letter_form(i, self.n)

    def counter(self, i):
        """Return the counter number i of the statement."""
        return self.letter(self.fixed + i)

    def own_letters(self):
        """Return the sizes and the statement's counters as forms."""
        counters = [self.letter(i) for i in range(self.fixed, self.n)]
        return (*[self.letter(i) for i in range(self.k)], *counters)

    def cell_equals(self, indexes):
        """Return forms that are 0 where the cell's indexes are those of a touch."""
        own = self.own_letters()
        told = [led_form(index, own, self.n) for index in indexes]
        return [difference(self.letter(self.first + i), form) for i, form in enumerate(told)]

    def touched(self, equals, rows):
        """Return what holds where there is a round at which forms are 0 and rows hold."""
        solved = Solved(self.n, equals, list(range(self.fixed, self.n)))
        many = len(solved.left)
        own = tuple([led_form(form, solved.forms, many) for form in self.own_letters()])
        parts = round_parts(self.k, self.chain, own, many)
        left, parts = solved.reduced([*parts, *[("row", led_form(row, solved.forms, many)) for row in rows]])
        told = ("and", *parts)
        for _ in range(left - self.fixed):
            told = ("some", told)
        return told


def cells_of(k, statement, array, kind):
    """Return formulas over sizes and indexes that hold at the cells that a statement touches so."""
    touches, chain = statement
    told = []
    for indexes in touches_by(touches, array, kind):
        places = Places(k, k, len(indexes), chain)
        told.append(places.touched(places.cell_equals(indexes), []))
    return told


def lines_of(k, statement, array, kind, w):
    """Return formulas over sizes and indexes, the last one by w, of the lines that a statement touches so."""
    touches, chain = statement
    told = []
    for indexes in touches_by(touches, array, kind):
        places = Places(k, k, len(indexes), chain)
        last = led_form(indexes[-1], places.own_letters(), places.n)
        rest = difference(last, form_times(places.letter(places.fixed - 1), w))
        rows = [rest, form_plus(form_times(rest, -1), w - 1)]
        told.append(places.touched(places.cell_equals(indexes[:-1]), rows))
    return told
