"""Conditions of terms, and terms written with few rows, gates and steps."""

from math import lcm

from pointtally.addings import bare, has_fractions
from pointtally.forms import common_part, form_sum, form_times, letter_form
from pointtally.grids import divided_grid, meet, whole_grid
from pointtally.polys import lot_of, lots_sum
from pointtally.searching import lowered_rows
from pointtally.steppolys import normal_of, normal_parts, without_idle

MOST_STEPS = 8


def grid_of_gates(k, gates):
    """Return the grid of all p at which each n of a gate divides its form's value, None if there are none."""
    grid = whole_grid(k)
    for n, form in gates:
        own = divided_grid(k, n, form)
        grid = None if own is None else meet(grid, own)
        if grid is None:
            return None
    return grid


def places_of_grid(grid):
    """Return for each letter y of a grid a pair (by, form): y is the form's value at the point, divided by by."""
    table, s = grid
    k = len(s)
    told = []
    for i, row in enumerate(table):
        by = 1
        for n, _ in told:
            by = lcm(by, n)
        form = form_times((-s[i], *letter_form(i, k)[1:]), by)
        for entry, (n, own) in zip(row, told):
            form = form_sum(form, form_times(own, -entry * (by // n)))
        by = by * row[i]
        part = common_part([by, *form])
        told.append((by // part, tuple([entry // part for entry in form])))
    return told


def led_by_places(form, places, k):
    """Return (by, form): a form over the letters of a grid, told over the letters of points, divided by by."""
    size = 1
    for by, _ in places:
        size = lcm(size, by)
    total = (form[0] * size, *[0] * k)
    for entry, (by, own) in zip(form[1:], places):
        if entry != 0:
            total = form_sum(total, form_times(own, entry * (size // by)))
    return (size, total)


def gates_of_grid(grid):
    """Return gates that hold at just the points of a grid."""
    found = []
    for n, form in places_of_grid(grid):
        if n > 1:
            found.append((n, tuple([entry % n for entry in form])))
    return tuple(found)


def short_rows(k, rows):
    """Return the ascending rows none of which follows from the others, None if no fractions keep them."""
    low = tuple(sorted(lowered_rows(rows)))
    if len(low) == 0:
        return low
    if not has_fractions(k, low):
        return None
    return tuple([low[i] for i in bare(k, low)]) if len(low) > 1 else low


def short_conditions(k, rows, gates):
    """Return (rows, gates) that hold where the given ones do, None if they hold nowhere for what can be seen here."""
    low = short_rows(k, rows)
    grid = grid_of_gates(k, gates)
    if low is None or grid is None:
        return None
    return (low, gates_of_grid(grid))


def letters_of(tally):
    """Return the number of parameters of a tally, 0 if it has no form."""
    for rows, gates, steps, _ in tally:
        for form in (*rows, *[form for _, form in (*gates, *steps)]):
            return len(form) - 1
    return 0


def _is_normal(steps):
    """Tell whether steps are normal, ascending and unlike."""
    for i, step in enumerate(steps):
        n, form = step
        if n == 1:
            if form[0] != 0 or sum(form) != 1 or max(form) != 1 or min(form) != 0:
                return False
        elif normal_parts(step) != ((0,) * len(form), step):
            return False
        if i > 0 and step <= steps[i - 1]:
            return False
    return True


def _put_step_poly(found, k, steps, poly):
    """Take a step polynomial in among those found, by their steps."""
    if not _is_normal(steps):
        steps, poly = normal_of(k, steps, lot_of(poly))
    found.setdefault(steps, []).append(poly)


def tidied_terms(tally):
    """Return terms with the same values, one for each lot of conditions if that has few steps, without those of 0."""
    k = letters_of(tally)
    known, found = {}, {}
    for rows, gates, steps, poly in tally:
        if (rows, gates) not in known:
            known[(rows, gates)] = short_conditions(k, rows, gates)
        place = known[(rows, gates)]
        if place is not None and poly:
            _put_step_poly(found.setdefault(place, {}), k, steps, poly)
    told = []
    for (rows, gates), parts in found.items():
        sums = []
        for steps, polys in parts.items():
            sums.append(without_idle(steps, lots_sum([lot_of(poly) for poly in polys])))
        for steps, poly in joined_parts([part for part in sums if part[1]]):
            told.append((rows, gates, steps, poly))
    return tuple(told)


def joined_parts(parts):
    """Return normal step polynomials with the same sum: one if they have few steps together."""
    letters = {}
    for steps, _ in parts:
        for step in steps:
            letters[step] = True
    if len(parts) < 2 or len(letters) > MOST_STEPS:
        return parts
    steps = sorted(letters)
    places = {step: i for i, step in enumerate(steps)}
    lots = []
    for own, poly in parts:
        terms, by = lot_of(poly)
        wide = {}
        for exponents, number in terms.items():
            at = [0] * len(steps)
            for step, exponent in zip(own, exponents):
                at[places[step]] = exponent
            wide[tuple(at)] = number
        lots.append((wide, by))
    told = without_idle(steps, lots_sum(lots))
    return [told] if told[1] else []
