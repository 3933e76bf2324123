"""How many points a formula has, told for all parameters."""

from pointtally.cornerterms import number_of, terms_of
from pointtally.countitems import items_of
from pointtally.endings import goes_on
from pointtally.errors import NotBounded
from pointtally.forms import letter_form
from pointtally.formulas import formula_put_in, need_formula
from pointtally.polys import lot_of
from pointtally.tallies import tidied


def is_finite(k, d, formula):
    """Tell whether a formula has finitely many points at each p."""
    need_formula(formula, k + d)
    return not goes_on(k, d, formula)


def _need_finite(k, d, formula):
    """Raise NotFormula for what is no formula, and NotBounded for one that is not finite."""
    if not is_finite(k, d, formula):
        raise NotBounded()


def tally_of(k, d, formula):
    """Return a tally of the number of points of a formula."""
    _need_finite(k, d, formula)
    return tidied(terms_of(k, items_of(k, d, formula, None)))


def weighted_of(k, d, formula, weight):
    """Return a tally of the sum of a weight over the points of a formula."""
    _need_finite(k, d, formula)
    return tidied(terms_of(k, items_of(k, d, formula, lot_of(weight))))


def count_at(k, d, formula, p):
    """Return the number of points of a formula at p."""
    _need_finite(k, d, formula)
    fixed = [(number, *[0] * d) for number in p]
    here = formula_put_in(formula, (*fixed, *[letter_form(i, d) for i in range(d)]), d)
    return number_of(items_of(0, d, here, None))
