"""Pairs of rounds of a nest: which are ahead of which, and which touch one cell."""

from pointtally.forms import form_plus, led_form
from pointtally.nestcells import Places, any_of, touches_by
from pointtally.nestforms import (
    common_loops, counters_of, difference, equal_rows, round_parts, statements_in, unit_forms,
)
from pointtally.nestsolving import Solved


def ways_ahead_of(statements, s, t, one, other):
    """Return pairs (forms that are 0, rows): in just one of these ways a round of s is ahead of one of t.

    one and other are the forms of the counters of both rounds.
    """
    shared = common_loops(statements[s][1], statements[t][1])
    told, equals = [], []
    for i in range(shared):
        told.append((list(equals), [form_plus(difference(other[i], one[i]), -1)]))
        equals.append(difference(one[i], other[i]))
    # In one run of the inmost loop around both, the text's sequence tells it.
    if s < t:
        told.append((equals, []))
    return told


def touched_about(k, statements, pair, array, is_behind):
    """Return formulas of the cells that rounds of t touch behind a round of s, or ahead of it and in it.

    pair is (s, t). They are over the sizes, the counters of s and the indexes.
    """
    s, t = pair
    touches, chain = statements[t]
    around = counters_of(statements[s][1])
    told = []
    for indexes in touches_by(touches, array, "any"):
        places = Places(k, k + around, len(indexes), chain)
        one = [places.letter(k + i) for i in range(around)]
        other = [places.counter(i) for i in range(counters_of(chain))]
        if is_behind:
            ways = ways_ahead_of(statements, s, t, one, other)
        else:
            ways = ways_ahead_of(statements, t, s, other, one)
            if s == t:
                ways = ways + [([difference(a, b) for a, b in zip(one, other)], [])]
        for equals, rows in ways:
            told.append(places.touched([*places.cell_equals(indexes), *equals], rows))
    return told


def all_of(equals, rows):
    """Return the formula that holds where forms are 0 and rows hold."""
    told = [("row", row) for row in rows]
    for form in equals:
        told += equal_rows(form)
    return ("and", *told)


class Pair:
    """Two statements of a nest; the letters are the sizes, the counters of the first one, those of the second one."""

    def __init__(self, nest, s, t):
        self.k = nest[1]
        self.statements = statements_in(nest)
        self.places = (s, t)
        self.one, self.other = self.statements[s], self.statements[t]
        front = self.k + counters_of(self.one[1])
        self.n = front + counters_of(self.other[1])
        units = unit_forms(self.n)
        self.front = front
        self.counters = (units[self.k:front], units[front:])
        self.letters = (units[:front], (*units[:self.k], *units[front:]))

    def ways(self):
        """Return the ways in which a round of the first one is ahead of one of the second one."""
        s, t = self.places
        return ways_ahead_of(self.statements, s, t, self.counters[0], self.counters[1])

    def cell_equals(self, indexes, more):
        """Return forms that are 0 where a touch of each is of one cell."""
        one = [led_form(form, self.letters[0], self.n) for form in indexes]
        return [difference(a, led_form(form, self.letters[1], self.n)) for a, form in zip(one, more)]

    def same_cells(self, array, kinds):
        """Return lists of such forms, one for each pair of touches of an array by a pair of kinds."""
        told = []
        for indexes in touches_by(self.one[0], array, kinds[0]):
            for more in touches_by(self.other[0], array, kinds[1]):
                equals = self.cell_equals(indexes, more)
                if equals not in told:
                    told.append(equals)
        return told

    def turning_cells(self):
        """Return lists of such forms, one for each pair of touches of any array, at least one of them by "write"."""
        told = []
        for kind, array, indexes in self.one[0]:
            for own, name, more in self.other[0]:
                if array == name and "write" in (kind, own):
                    equals = self.cell_equals(indexes, more)
                    if equals not in told:
                        told.append(equals)
        return told

    def rounds(self, forms, n):
        """Return the formulas that hold together at rounds of both; forms over n letters stand for all letters."""
        one = round_parts(self.k, self.one[1], forms[:self.front], n)
        other = round_parts(self.k, self.other[1], (*forms[:self.k], *forms[self.front:]), n)
        return [*one, *[part for part in other if part not in one]]

    def formula(self, equals, rows, cells):
        """Return (d, formula over the sizes and d counters): rounds at which forms are 0, rows hold and cells are one.

        cells are lists of forms, of which one is 0 throughout. Counters that others tell are left out, so that there
        are as many points as pairs of rounds.
        """
        sure = [*equals, *cells[0]] if len(cells) == 1 else equals
        solved = Solved(self.n, sure, list(range(self.k, self.n)))
        n = len(solved.left)
        parts = self.rounds(solved.forms, n) + [("row", led_form(row, solved.forms, n)) for row in rows]
        if len(cells) != 1:
            led = [[led_form(form, solved.forms, n) for form in cell] for cell in cells]
            parts.append(any_of([all_of(cell, []) for cell in led]))
        left, parts = solved.reduced(parts)
        return (left - self.k, ("and", *parts))
