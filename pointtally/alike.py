"""Whether tallies are alike for all choices, and where they part first."""

from pointtally.cells import needed_rows, norm_form, reach_of
from pointtally.counting import tally_of
from pointtally.cuttings import Cutting
from pointtally.endings import goes_on
from pointtally.errors import NotBounded
from pointtally.formulas import need_formula
from pointtally.partings import least_parting
from pointtally.periods import shell
from pointtally.tallies import less, tidied, value

TRIED = 60000


def _size_of_terms(terms):
    """Return about how much work it is to tell the value of terms."""
    return 50 + sum([len(rows) + 10 + len(poly) * (1 + len(steps)) for rows, _, steps, poly in terms])


def _near_parting(k, terms):
    """Return the first choice of those near 0 at which terms do not add up to 0, None if there is none there."""
    left, total = TRIED // _size_of_terms(terms) + 1, 0
    while left > 0:
        for p in shell(k, total):
            if value(terms, p)[0] != 0:
                return p
            left -= 1
        total += 1
    return None


def _order(p):
    """Return what orders choices."""
    return (sum([abs(entry) for entry in p]), p)


def _far_parting(k, terms):
    """Return the first choice at which terms do not add up to 0, None if there is none."""
    cutting = Cutting(k, terms)
    best, most = None, None
    while True:
        found = cutting.next_cell(most)
        if found is None:
            return best
        signs, cell, told = found
        near = most if best is not None else reach_of(signs, cell, told.count_to_end())
        point = least_parting(k, needed_rows(cell), norm_form(signs), told, near)
        if point is not None and (best is None or _order(point) < _order(best)):
            best, most = point, _order(point)[0]


def first_nonzero(k, terms):
    """Return the first choice at which terms do not add up to 0, None if there is none."""
    if len(terms) == 0:
        return None
    if k == 0:
        return () if value(terms, ())[0] != 0 else None
    near = _near_parting(k, terms)
    return near if near is not None else _far_parting(k, terms)


def alike(one, other, k):
    """Return None if two tallies have the same values everywhere, otherwise the least choice at which they part."""
    return first_nonzero(k, tidied(less(one, other)))


def counts_alike(k, d, f, g):
    """Return None if two formulas have as many points at each p, otherwise the least p at which they do not."""
    for formula in (f, g):
        need_formula(formula, k + d)
    for formula in (f, g):
        if goes_on(k, d, formula):
            raise NotBounded()
    return alike(tally_of(k, d, f), tally_of(k, d, g), k)
