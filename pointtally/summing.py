"""Tallies summed over all integers in the place of their last parameters."""

from pointtally.addings import has_fractions
from pointtally.cornerterms import terms_of
from pointtally.errors import NotBounded
from pointtally.forms import form_plus, form_sum, form_times, led_form, letter_form
from pointtally.frames import Frame
from pointtally.grids import divided_grid, form_on, grid_forms, grid_within, meet, size_of, whole_grid
from pointtally.polys import form_lot, lot_of, lot_times, poly_of, put_lots
from pointtally.rays import has_ray
from pointtally.searching import whole_point
from pointtally.shadows import tidied_piece
from pointtally.steppolys import beside, normal_parts
from pointtally.tallies import tidied
from pointtally.terms import grid_of_gates

FEW = 36
MANY = 240


class Case:
    """A part of a term: rows on a grid, and what stands there for each of the term's steps.

    told[i] is (form, rest): step i is the form over the grid's letters plus the rest, a step over these or None.
    """

    def __init__(self, room, rows, grid, told):
        self.room = room
        self.rows = rows
        self.grid = grid
        self.told = told

    def rests(self):
        """Return the unlike rests that hang on the letters that are summed over."""
        found = []
        for _, rest in self.told:
            if rest is not None and rest not in found and any(rest[1][self.room[0] + 1:]):
                found.append(rest)
        return found

    def on_class(self, rest, left):
        """Return the case where the form of a rest leaves a number by its n, None if it never does."""
        m = len(self.grid[1])
        n, form = rest
        inner = divided_grid(m, n, form_plus(form, -left))
        if inner is None:
            return None
        own = grid_within(self.grid, inner)
        forms = _forms_between(self.grid, own)
        rows = tuple([led_form(row, forms, m) for row in self.rows])
        told = []
        for whole, other in self.told:
            form, more = led_form(whole, forms, m), None
            if other is not None:
                front, more = normal_parts((other[0], led_form(other[1], forms, m)))
                form = form_sum(form, front)
            told.append((form, more))
        return Case(self.room, rows, own, told)


def _forms_between(grid, inner):
    """Return the letters of a grid as forms over those of a grid that it holds."""
    table, s = grid
    forms = []
    for i, (row, (first, *entries)) in enumerate(zip(table, grid_forms(inner))):
        # Row i tells the point's entry i by the letters up to i, of which all but the last are known.
        form = [first - s[i], *entries]
        for entry, known in zip(row, forms):
            form = [a - entry * b for a, b in zip(form, known)]
        forms.append(tuple([entry // row[i] for entry in form]))
    return tuple(forms)


def _first_case(k, many, rows, gates, steps):
    """Return the whole case of a term, None if its gates never hold."""
    grid = grid_of_gates(k, gates)
    if grid is None:
        return None
    led = tuple([form_on(grid, row) for row in rows])
    told = [normal_parts((n, form_on(grid, form))) for n, form in steps]
    return Case((k - many, many), led, grid, told)


def _joint_size(case):
    """Return how many classes there are on which all rests are forms divided by numbers."""
    m = len(case.grid[1])
    grid = whole_grid(m)
    for n, form in case.rests():
        # Forms without a constant are divisible at 0, so that these grids always meet.
        grid = meet(grid, divided_grid(m, n, (0, *form[1:])))
    return size_of(grid)


def _classes(case):
    """Return cases in whose classes few numbers are left by rests, with the rests that are of too many numbers."""
    # The fewer letters are summed over, the less a class costs beside a letter more.
    size = _joint_size(case)
    most = max(FEW, size) if size * case.room[1] <= MANY else FEW
    waiting, found = [(case, 1)], []
    while waiting:
        told, many = waiting.pop()
        small = [rest for rest in told.rests() if many * rest[0] <= most]
        if len(small) == 0:
            found.append(told)
        else:
            n = small[0][0]
            for left in range(n):
                inner = told.on_class(small[0], left)
                if inner is not None and has_fractions(len(inner.grid[1]), inner.rows):
                    waiting.append((inner, many * n))
    return found


def _opened(case):
    """Return (rows, grid, letters): a letter more for each rest, held to it by two rows; letters tell the rests."""
    rests = case.rests()
    table, s = case.grid
    m, more = len(s), len(rests)
    wide = [(*row, *[0] * more) for row in case.rows]
    letters = {}
    for i, rest in enumerate(rests):
        n, form = rest
        own = letter_form(m + i, m + more)
        left = tuple([a - n * b for a, b in zip((*form, *[0] * more), own)])
        wide += [left, form_plus(form_times(left, -1), n - 1)]
        letters[rest] = own
    rows = [(*row, *[0] * more) for row in table] + [letter_form(m + i, m + more)[1:] for i in range(more)]
    return (tuple(wide), (tuple(rows), (*s, *[0] * more)), letters)


def _weights(case, letters, width, poly):
    """Return pairs (outer steps' exponents, lot over the opened letters) that poly comes to, and the outer steps."""
    outer = []
    for _, rest in case.told:
        if rest is not None and rest not in letters and rest not in outer:
            outer.append(rest)
    wide = width + len(outer)
    lots = []
    for whole, rest in case.told:
        form = (*whole, *[0] * (wide + 1 - len(whole)))
        if rest in letters:
            form = form_sum(form, (*letters[rest], *[0] * len(outer)))
        elif rest is not None:
            form = form_sum(form, letter_form(width + outer.index(rest), wide))
        lots.append(form_lot(form))
    terms, by = put_lots(lot_of(poly), lots, wide)
    parts = {}
    for exponents, number in terms.items():
        parts.setdefault(exponents[width:], {})[exponents[:width]] = number
    return ([(back, (parts[back], by)) for back in sorted(parts)], outer)


def _case_terms(case, poly):
    """Return terms of the sum over a case."""
    k = case.room[0]
    rows, grid, letters = _opened(case)
    width = len(grid[1])
    short = tidied_piece(((k, width - k, rows), grid))
    if short is None:
        return ()
    weights, outer = _weights(case, letters, width, poly)
    outer_steps = _outer_steps(k, case.grid, outer)
    told = []
    for exponents, lot in weights:
        block = (k, width - k, short[0][2], (), [1])
        for own_rows, gates, steps, own in terms_of(k, [(block, grid, lot)]):
            side, inner, front = beside((steps, own), (outer_steps, (((1, 1), exponents),)))
            told.append((own_rows, gates, side, poly_of(lot_times(inner, front))))
    return tuple(told)


def _outer_steps(k, grid, outer):
    """Return steps over the parameters of a grid's letters as steps over those of its points."""
    return tuple(Frame(k, grid).led_steps([(n, form[:k + 1]) for n, form in outer]))


def _term_sum(term, k, many):
    """Return terms of the sum over a term; raise NotBounded if it goes on."""
    rows, gates, steps, poly = term
    case = _first_case(k, many, rows, gates, steps)
    if len(poly) == 0 or case is None or whole_point(k, case.rows) is None:
        return ()
    if has_ray(k - many, many, case.rows):
        raise NotBounded()
    told = []
    for inner in _classes(case):
        told += _case_terms(inner, poly)
    return tuple(told)


def summed(tally, k, many):
    """Return the tally over the first k - many parameters of the sums over all integers for the last many ones."""
    told = []
    for term in tally:
        told += _term_sum(term, k, many)
    return tidied(tuple(told))
