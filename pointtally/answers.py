"""Answers: of each claim what is so, with a paper."""

from pointtally.alike import alike
from pointtally.claims import claim_breach
from pointtally.countpapers import paper_and_number, paper_and_tally
from pointtally.errors import NotClaim
from pointtally.falling import empty_paper
from pointtally.grids import point_at
from pointtally.lessening import plain_list
from pointtally.matrices import times_column
from pointtally.rays import has_ray, ray_or_bounds
from pointtally.searching import whole_point
from pointtally.sets import empty_papers, pieces_of
from pointtally.tallies import value
from pointtally.verdicts import holds_at, without_other


def _some_point(piece):
    """Return a point of a piece, None if it has none."""
    (k, d, rows), grid = piece
    y = whole_point(k + d, rows)
    return None if y is None else point_at(grid, y)


def _answer_point(claim):
    """Return (whether it is so, paper)."""
    _, _, _, formula, t = claim
    return (holds_at(formula, t), ())


def _answer_empty(claim):
    """Return (whether it is so, paper)."""
    _, k, d, formula = claim
    for piece in pieces_of(k, d, formula):
        point = _some_point(piece)
        if point is not None:
            return (False, (point,))
    return (True, empty_papers(k, d, formula))


def _answer_within(claim):
    """Return (whether it is so, paper)."""
    _, k, d, formula, other = claim
    return _answer_empty(("empty", k, d, without_other(formula, other)))


def _way_on(piece):
    """Return a way of the unknowns along which a piece goes on, as points have them."""
    (k, d, rows), grid = piece
    _, ray = ray_or_bounds(k, d, rows)
    return times_column(tuple([row[k:] for row in grid[0][k:]]), ray)


def _answer_finite(claim):
    """Return (whether it is so, paper)."""
    _, k, d, formula = claim
    told = []
    for piece in plain_list(k, d, formula):
        hall = piece[0]
        if has_ray(*hall):
            point = _some_point(piece)
            if point is not None:
                return (False, (point, _way_on(piece)))
            told.append(("empty", empty_paper(piece)))
        else:
            told.append(ray_or_bounds(*hall))
    return (True, tuple(told))


def _answer_count(claim):
    """Return (whether it is so, paper)."""
    _, k, d, formula, p, n = claim
    paper, (number, _) = paper_and_number(k, d, formula, None, p)
    return (True, (paper,)) if number == n else (False, (number, paper))


def _answer_sum(claim):
    """Return (whether it is so, paper)."""
    _, k, d, formula, weight, p, total = claim
    paper, number = paper_and_number(k, d, formula, weight, p)
    return (True, (paper,)) if number == total else (False, (number, paper))


def _answer_tells(claim):
    """Return (whether it is so, paper)."""
    _, k, d, formula, tally = claim
    paper, own = paper_and_tally(k, d, formula)
    p = alike(own, tally, k)
    return (True, (paper,)) if p is None else (False, (p, value(own, p)[0], paper))


def _answer_alike(claim):
    """Return (whether it is so, paper)."""
    _, k, tally, other = claim
    p = alike(tally, other, k)
    return (True, ()) if p is None else (False, (p,))


def _answer_parting(claim):
    """Return (whether it is so, paper)."""
    _, k, tally, other, p = claim
    if value(tally, p) == value(other, p):
        return (False, ())
    first = alike(tally, other, k)
    return (True, ()) if first == p else (False, (first,))


ANSWERS = {
    "point": _answer_point,
    "empty": _answer_empty,
    "finite": _answer_finite,
    "count": _answer_count,
    "sum": _answer_sum,
    "tells": _answer_tells,
    "within": _answer_within,
    "alike": _answer_alike,
    "parting": _answer_parting,
}


def answer(claim):
    """Return (saying, paper) of any value that is a claim: what is so of it, and what shows it."""
    told = claim_breach(claim)
    if told is not None:
        rule, place = told
        raise NotClaim(rule, place)
    kind = ANSWERS[claim[0]]
    is_so, paper = kind(claim)
    return (("is" if is_so else "not", claim), paper)
