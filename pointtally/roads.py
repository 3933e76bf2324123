"""Systems over parameters and unknowns, from which one unknown after another is summed away."""

from pointtally.addings import flat
from pointtally.forms import common_part, form_sum, form_times, letter_form, put_in
from pointtally.frames import Frame
from pointtally.grids import divided_grid, form_on, grid_forms, grid_within, leading, whole_grid
from pointtally.lastsums import by_roundings, classes_of, put_in_summand, sums_over_last, told_part
from pointtally.matrices import turned
from pointtally.polys import lot_of
from pointtally.reducing import products_of, reduced_rows
from pointtally.searching import echelon
from pointtally.shadows import tidied_piece


def _tidied_rows(m, rows):
    """Return the rows without those that follow from others, None if no fractions keep them."""
    told = tidied_piece(((0, m, rows), whole_grid(m)))
    return None if told is None else told[0][2]


def _product(numbers):
    """Return the product of some numbers."""
    total = 1
    for number in numbers:
        total = total * number
    return total


class Road:
    """What is left to be summed: a summand over k parameters and e unknowns where rows hold.

    The parameters are the letters of the grid front.
    """

    def __init__(self, front, e, rows, summand):
        self.front = front
        self.k = len(front[1])
        self.e = e
        self.rows = rows
        self.summand = summand

    def led(self, front, forms, e):
        """Return the road over e unknowns that comes of forms for all letters."""
        m = self.k + e
        rows = tuple([put_in(row, forms, m) for row in self.rows])
        return Road(front, e, rows, put_in_summand(self.summand, forms, m))

    def equal_row(self):
        """Return a row with unknowns that is 0 wherever all rows hold, if that can be seen at once, else None."""
        for row in self.rows:
            if any(row[self.k + 1:]) and form_times(row, -1) in self.rows:
                return row
        return None

    def with_equals(self):
        """Return the road with all rows that are 0 everywhere written in both ways."""
        places = flat(self.k + self.e, self.rows)
        more = [form_times(self.rows[i], -1) for i in places]
        rows = (*self.rows, *[row for row in more if row not in self.rows])
        return Road(self.front, self.e, rows, self.summand)

    def without_one(self, row):
        """Return the road with one unknown less, by a row with unknowns that is 0; None if it never can be."""
        k, e = self.k, self.e
        size = common_part(row[k + 1:])
        inner = divided_grid(k, size, row[:k + 1])
        if inner is None:
            return None
        ahead = tuple([entry // size for entry in form_on(inner, row[:k + 1])])
        head = (0, *[entry // size for entry in row[k + 1:]])
        turn, _ = echelon(e, (head,))
        # The row hangs on the first of new unknowns alone, 1 or -1 times: so that one is told by the parameters.
        first = (*form_times(ahead, -put_in(head, turn, e)[1]), *[0] * (e - 1))
        forms = [(*form, *[0] * (e - 1)) for form in grid_forms(inner)]
        for form in turn:
            forms.append(form_sum((*[0] * (k + 1), *form[2:]), form_times(first, form[1])))
        return self.led(grid_within(self.front, inner), tuple(forms), e - 1)

    def tidied(self):
        """Return the road with few rows and no unknowns that are told by the others, None if nothing is left."""
        road = self
        while True:
            rows = _tidied_rows(road.k + road.e, road.rows)
            if rows is None:
                return None
            road = Road(road.front, road.e, rows, road.summand)
            row = road.equal_row()
            road = road if row is None else road.without_one(row)
            if row is None or road is None:
                return road

    def cost(self, i):
        """Return about how much comes of it if unknown number i is summed over now."""
        place = self.k + i
        bounds = [abs(row[place + 1]) for row in self.rows if row[place + 1] != 0]
        own = self.with_last(i)
        many = sum([classes_of(part) for whole in own.summand for part in by_roundings(whole)])
        return len(bounds) * many * max(bounds)

    def costs(self):
        """Return the costs of all unknowns."""
        return [self.cost(i) for i in range(self.e)]

    def with_short_heads(self):
        """Return the road with unknowns by which all heads together are short."""
        k, e = self.k, self.e
        columns = turned(reduced_rows(products_of(e, [(1, row[k + 1:]) for row in self.rows])), e)
        units = [letter_form(i, k + e) for i in range(k)]
        return self.led(self.front, (*units, *[(*[0] * (k + 1), *column) for column in columns]), e)

    def cheapest(self):
        """Return (road, its costs) with the unknowns that it has or with others, whichever cost less."""
        own = (self, self.costs())
        if self.e < 2:
            return own
        other = self.with_short_heads()
        more = (other, other.costs())
        return more if _product(more[1]) < _product(own[1]) else own

    def with_last(self, i):
        """Return the road in which unknown number i is the last one."""
        if i == self.e - 1:
            return self
        m = self.k + self.e
        forms = [letter_form(j, m) for j in range(m)]
        forms[self.k + i], forms[m - 1] = forms[m - 1], forms[self.k + i]
        return self.led(self.front, tuple(forms), self.e)

    def onward(self):
        """Return the roads with one unknown less that come of summing over the best one."""
        road, costs = self.cheapest()
        own = road.with_last(costs.index(min(costs)))
        parts = sums_over_last(own.k + own.e, own.rows, own.summand)
        return [Road(own.front, own.e - 1, rows, summand) for rows, summand in parts]

    def end(self):
        """Return the terms of a road without unknowns, over the letters of points."""
        frame = Frame(self.k, self.front)
        rows = frame.led_rows(self.rows)
        return [(rows, frame.gates, tuple(frame.led_steps(steps)), poly) for steps, poly in self.summand]


def terms_of_road(road):
    """Return terms that a road adds up to; the last unknowns are to be bounded by the rows."""
    waiting, found = [road.with_equals()], []
    while waiting:
        own = waiting.pop().tidied()
        if own is not None and own.e == 0:
            found += own.end()
        elif own is not None:
            waiting += own.onward()
    return found


def road_of(piece, poly):
    """Return the road of a piece and a POLY over the letters of its grid."""
    (k, d, rows), grid = piece
    m = k + d
    part = told_part(m, [(1, letter_form(i, m)) for i in range(m)], lot_of(poly))
    return Road(leading(grid, k), d, rows, (part,))
