"""What shows that a claim is so, or is not so: one check for each kind of claim."""

from pointtally.alike import alike
from pointtally.countpapers import number_or_none, tally_or_none
from pointtally.falling import is_empty_paper
from pointtally.forms import are_numbers, is_number, product_sum, word_of
from pointtally.formulas import formula_put_in, sizes
from pointtally.fractions import is_fraction
from pointtally.grids import place_in
from pointtally.halls import in_hall
from pointtally.lessening import plain_list
from pointtally.listing import holds_within
from pointtally.rays import is_ray_or_bounds
from pointtally.sets import has_point, is_formula_paper, pieces_of
from pointtally.tallies import value


def holds_at(formula, t):
    """Tell whether a formula holds at t."""
    if sizes(formula)[1] == 0:
        return holds_within(formula, t, 0)
    here = formula_put_in(formula, tuple([(number,) for number in t]), 0)
    return has_point(pieces_of(0, 0, here))


def is_tuple(paper, count):
    """Tell of any value whether it is a tuple of so many entries."""
    return isinstance(paper, tuple) and len(paper) == count


def without_other(formula, other):
    """Return the formula that holds where one does and another one does not."""
    return ("and", formula, ("not", other))


def _is_point_at(formula, paper, m):
    """Tell of any value whether it is a tuple of one entry, a point of a formula."""
    return is_tuple(paper, 1) and are_numbers(paper[0], m) and holds_at(formula, paper[0])


def check_point(is_so, claim, paper):
    """Tell whether () is a paper: the claim is as is_so tells."""
    _, _, _, formula, t = claim
    return is_tuple(paper, 0) and holds_at(formula, t) == is_so


def check_empty(is_so, claim, paper):
    """Tell whether a paper shows that a formula has no point, or has one."""
    _, k, d, formula = claim
    if is_so:
        return is_formula_paper(k, d, formula, paper)
    return _is_point_at(formula, paper, k + d)


def check_within(is_so, claim, paper):
    """Tell whether a paper shows that all points of a formula are points of another one, or that one is not."""
    _, k, d, formula, other = claim
    return check_empty(is_so, ("empty", k, d, without_other(formula, other)), paper)


def goes_along(piece, t, h):
    """Tell whether a piece that has t has it with h, any number of times, added to its unknowns, too."""
    (k, d, rows), grid = piece
    table = tuple([row[k:] for row in grid[0][k:]])
    way = place_in((table, (0,) * d), h)
    y = place_in(grid, t)
    if way is None or y is None or not in_hall(piece[0], y[:k], y[k:]):
        return False
    return all([product_sum(row[k + 1:], way) >= 0 for row in rows])


def _is_end(piece, entry):
    """Tell of any value whether it shows that a piece has finitely many points at each p."""
    (k, d, rows), _ = piece
    if word_of(entry, 2) == "empty":
        return is_empty_paper(piece, entry[1])
    return word_of(entry, 2) == "bounds" and is_ray_or_bounds(k, d, rows, entry)


def check_finite(is_so, claim, paper):
    """Tell whether a paper shows that a formula is finite, or where it goes on."""
    _, k, d, formula = claim
    pieces = plain_list(k, d, formula) if isinstance(paper, tuple) else []
    if is_so:
        return is_tuple(paper, len(pieces)) and all([_is_end(piece, entry) for piece, entry in zip(pieces, paper)])
    if not is_tuple(paper, 2) or not are_numbers(paper[0], k + d) or not are_numbers(paper[1], d) or not any(paper[1]):
        return False
    return any([goes_along(piece, paper[0], paper[1]) for piece in pieces])


def _number_from(claim, weight, p, counting):
    """Return the number at p, or the sum of a weight, that a counting paper tells; None for what is none."""
    _, k, d, formula = claim[:4]
    return number_or_none(k, d, formula, counting, weight, p)


def check_count(is_so, claim, paper):
    """Tell whether a paper shows how many points a formula has at p."""
    _, _, _, _, p, n = claim
    if is_so:
        return is_tuple(paper, 1) and _number_from(claim, None, p, paper[0]) == (n, 1)
    if not is_tuple(paper, 2) or not is_number(paper[0]) or paper[0] == n:
        return False
    return _number_from(claim, None, p, paper[1]) == (paper[0], 1)


def check_sum(is_so, claim, paper):
    """Tell whether a paper shows what a weight adds up to over the points of a formula at p."""
    _, _, _, _, weight, p, total = claim
    if is_so:
        return is_tuple(paper, 1) and _number_from(claim, weight, p, paper[0]) == total
    if not is_tuple(paper, 2) or not is_fraction(paper[0]) or paper[0] == total:
        return False
    return _number_from(claim, weight, p, paper[1]) == paper[0]


def check_tells(is_so, claim, paper):
    """Tell whether a paper shows that a tally tells how many points a formula has, or where it does not."""
    _, k, d, formula, tally = claim
    if is_so:
        told = tally_or_none(k, d, formula, paper[0]) if is_tuple(paper, 1) else None
        return told is not None and alike(told, tally, k) is None
    if not is_tuple(paper, 3) or not are_numbers(paper[0], k) or not is_number(paper[1]):
        return False
    p, n, counting = paper
    return value(tally, p) != (n, 1) and _number_from(claim, None, p, counting) == (n, 1)


def check_alike(is_so, claim, paper):
    """Tell whether a paper shows that tallies are alike, or where they are not."""
    _, k, tally, other = claim
    if is_so:
        return is_tuple(paper, 0) and alike(tally, other, k) is None
    return is_tuple(paper, 1) and are_numbers(paper[0], k) and value(tally, paper[0]) != value(other, paper[0])


def order_of(p):
    """Return what orders choices: the sum of the absolute values, and then the choice itself."""
    return (sum([abs(number) for number in p]), p)


def check_parting(is_so, claim, paper):
    """Tell whether a paper shows that p is the first choice at which tallies are unlike, or that it is not."""
    _, k, tally, other, p = claim
    if is_so:
        return is_tuple(paper, 0) and alike(tally, other, k) == p
    if value(tally, p) == value(other, p):
        return is_tuple(paper, 0)
    if not is_tuple(paper, 1) or not are_numbers(paper[0], k) or order_of(paper[0]) >= order_of(p):
        return False
    return value(tally, paper[0]) != value(other, paper[0])


CHECKS = {
    "point": check_point,
    "empty": check_empty,
    "finite": check_finite,
    "count": check_count,
    "sum": check_sum,
    "tells": check_tells,
    "within": check_within,
    "alike": check_alike,
    "parting": check_parting,
}


def is_shown(saying, paper):
    """Tell whether any value is a paper of a saying."""
    word, claim = saying
    check = CHECKS[claim[0]]
    return check(word == "is", claim, paper)
