"""Points counted, or a weight summed over them, one unknown after another."""

from pointtally.countitems import counted_pieces
from pointtally.endings import goes_on
from pointtally.errors import NotBounded
from pointtally.forms import letter_form
from pointtally.formulas import formula_put_in, need_formula
from pointtally.polys import number_lot, poly_of
from pointtally.rays import has_ray
from pointtally.roads import road_of, terms_of_road
from pointtally.searching import whole_point
from pointtally.splits import split_pieces
from pointtally.tallies import scaled, tidied, value
from pointtally.telescopes import moved_poly


def sums_of_piece(piece, weight):
    """Return a tally of the sums of a weight over the points of a piece."""
    (k, d, rows), grid = piece
    if whole_point(k + d, rows) is None:
        return ()
    if has_ray(k, d, rows):
        raise NotBounded()
    return tidied(tuple(terms_of_road(road_of(piece, moved_poly(weight, grid)))))


def _sums_of(k, d, formula, weight):
    """Return a tally of the sums of a weight over the points of a finite formula."""
    told = []
    for number, piece in _bounded_pieces(k, d, formula):
        told += scaled(sums_of_piece(piece, weight), (number, 1))
    return tidied(tuple(told))


def _bounded_pieces(k, d, formula):
    """Return pairs (number, piece) that count the points of a finite formula, without pieces that go on."""
    told = counted_pieces(k, d, formula)
    if any([has_ray(*hall) for _, (hall, _) in told]):
        # Pieces apart have points of the formula alone, so that none of them that goes on has a point.
        told = [(1, piece) for piece in split_pieces(k, d, formula)]
    return told


def _one_everywhere(m):
    """Return the POLY over m letters that is 1."""
    return poly_of(number_lot(1, 1, m))


def _need_finite(k, d, formula):
    """Raise NotFormula for what is no formula, and NotBounded for one that is not finite."""
    need_formula(formula, k + d)
    if goes_on(k, d, formula):
        raise NotBounded()


def tally_by_sums(k, d, formula, weight=None):
    """Return a tally of the sums of a weight over the points of a formula, of their number if it is None."""
    _need_finite(k, d, formula)
    return _sums_of(k, d, formula, _one_everywhere(k + d) if weight is None else weight)


def count_by_sums(k, d, formula, p):
    """Return the number of points of a formula at p."""
    _need_finite(k, d, formula)
    fixed = [(number, *[0] * d) for number in p]
    here = formula_put_in(formula, (*fixed, *[letter_form(i, d) for i in range(d)]), d)
    return value(_sums_of(0, d, here, _one_everywhere(d)), ())[0]
