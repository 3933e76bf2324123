"""Sets of pieces: what they share, what is left of them, their points."""

from pointtally.errors import NoPoint, NotBounded, NotFit, TooMany
from pointtally.falling import empty_paper, is_empty_paper
from pointtally.formulas import formula_put_in, need_formula
from pointtally.forms import form_plus, form_times, letter_form
from pointtally.grids import grid_forms, leading, place_in, point_at
from pointtally.halls import hall_at
from pointtally.lessening import less, plain_list, with_piece
from pointtally.neighbours import neighbours_of
from pointtally.pieces import need_one_room
from pointtally.rays import has_ray
from pointtally.searching import least_from, whole_point, whole_points
from pointtally.shadows import less_tidied, made_apart, shadows, tidied_pieces
from pointtally.splits import split_pieces


def _apart(pieces):
    """Return a list of pieces, apart, with the points of some pieces."""
    return made_apart([[piece] for piece in tidied_pieces(pieces)])


def common(one, other):
    """Return a set with the points that are in both."""
    need_one_room((*one, *other))
    others = neighbours_of(_apart(other))
    told = [with_piece(piece, inner) for piece in _apart(one) for inner in others.meeting(piece[1])]
    return tuple(tidied_pieces([piece for piece in told if piece is not None]))


def taken_out(one, other):
    """Return a set with the points that are in one and not in the other."""
    need_one_room((*one, *other))
    return tuple(less_tidied(_apart(one), neighbours_of(other)))


def joined(one, other):
    """Return a set with the points that are in either."""
    need_one_room((*one, *other))
    return tuple(_apart((*one, *other)))


def fallen(pieces, count):
    """Return a set with all points less their last count entries."""
    need_one_room(pieces)
    return tuple(made_apart([shadows(piece, count) for piece in pieces]))


def is_apart(pieces):
    """Tell whether no two pieces share a point."""
    need_one_room(pieces)
    ahead = neighbours_of(())
    for piece in pieces:
        for other in ahead.meeting(piece[1]):
            shared = with_piece(piece, other)
            if shared is not None and _piece_point(shared) is not None:
                return False
        ahead.put(piece)
    return True


def pieces_of(k, d, formula):
    """Return a set with just the points at which a formula holds."""
    need_formula(formula, k + d)
    return tuple(split_pieces(k, d, formula))


def plain_pieces(k, d, formula):
    """Return the tuple of the plain pieces of a formula, step by step as they are told."""
    need_formula(formula, k + d)
    return tuple(plain_list(k, d, formula))


def formula_paper(k, d, formula):
    """Return a tuple with an empty paper of each plain piece, None if the formula holds somewhere."""
    need_formula(formula, k + d)
    return None if has_point(pieces_of(k, d, formula)) else empty_papers(k, d, formula)


def empty_papers(k, d, formula):
    """Return a tuple with an empty paper of each plain piece of a formula that holds nowhere."""
    return tuple([empty_paper(piece) for piece in plain_list(k, d, formula)])


def is_formula_paper(k, d, formula, value):
    """Tell of any value whether it has an empty paper of each plain piece."""
    need_formula(formula, k + d)
    if not isinstance(value, tuple):
        return False
    pieces = plain_list(k, d, formula)
    if len(pieces) != len(value):
        return False
    for piece, paper in zip(pieces, value):
        if not is_empty_paper(piece, paper):
            return False
    return True


def _piece_point(piece):
    """Return the place of some point of a piece in its grid, None if it has no point."""
    (k, d, rows), _ = piece
    return whole_point(k + d, rows)


def has_point(pieces):
    """Tell whether a set has any point."""
    need_one_room(pieces)
    for piece in pieces:
        if _piece_point(piece) is not None:
            return True
    return False


def _nearest_entry(pieces, i):
    """Return what entry number i of points is nearest to 0, of two the one below; None if there are no points."""
    best = None
    for (k, d, rows), grid in pieces:
        form = grid_forms(grid)[i]
        up = least_from(k + d, rows, form, 0)
        # What is farther than what was found is of no use.
        near = rows if up is None else (*rows, form_plus(form, up))
        down = least_from(k + d, near, form_times(form, -1), 1)
        for entry in (up, None if down is None else -down):
            if entry is not None and (best is None or (abs(entry), entry) < (abs(best), best)):
                best = entry
    return best


def _with_entry(piece, i, number):
    """Return the piece with entry number i of points held at a number."""
    (k, d, rows), grid = piece
    row = form_plus(grid_forms(grid)[i], -number)
    return ((k, d, (*rows, row, form_times(row, -1))), grid)


def first_entries(pieces, count):
    """Return the first count entries of the point that first_point returns; the rooms need to share these alone."""
    left = [piece for piece in pieces if _piece_point(piece) is not None]
    if len(left) == 0:
        raise NoPoint()
    point = []
    for i in range(count):
        number = _nearest_entry(left, i)
        point.append(number)
        left = [_with_entry(piece, i, number) for piece in left]
    return tuple(point)


def first_point(pieces):
    """Return the point with the first entry nearest to 0, then the second one, and so on."""
    need_one_room(pieces)
    return first_entries(pieces, len(pieces[0][1][1]) if pieces else 0)


def is_within(one, other):
    """Tell whether all points of one are points of the other."""
    need_one_room((*one, *other))
    kept = neighbours_of(other)
    for piece in one:
        if has_point(less([piece], kept)):
            return False
    return True


def is_same(one, other):
    """Tell whether both have the same points."""
    return is_within(one, other) and is_within(other, one)


def parting(one, other):
    """Return the first point of those that are in just one of both, None if there is none."""
    need_one_room((*one, *other))
    parts = less(one, neighbours_of(other)) + less(other, neighbours_of(one))
    return first_point(parts) if has_point(parts) else None


def first_parting(m, f, g):
    """Return the first point of m letters at which just one of two formulas holds, None if there is none."""
    if f == g:
        return None
    if m > 0:
        # Often the first entry is 0, and then one letter less is left.
        forms = ((0,) * m, *[letter_form(i, m - 1) for i in range(m - 1)])
        rest = first_parting(m - 1, formula_put_in(f, forms, m - 1), formula_put_in(g, forms, m - 1))
        if rest is not None:
            return (0, *rest)
    return parting(tuple(split_pieces(0, m, f)), tuple(split_pieces(0, m, g)))


def _goes_on(piece):
    """Tell whether at some p a piece has points without end."""
    (k, d, rows), _ = piece
    return has_ray(k, d, rows) and _piece_point(piece) is not None


def is_finite_set(pieces):
    """Tell whether for every p there are finitely many points."""
    need_one_room(pieces)
    for piece in pieces:
        if _goes_on(piece):
            return False
    return True


def need_finite_set(pieces):
    """Raise NotBounded unless for every p there are finitely many points."""
    if not is_finite_set(pieces):
        raise NotBounded()


def _points_of(piece, p, most):
    """Return at most so many of the tuples x behind p in a piece that is finite."""
    (k, d, rows), grid = piece
    front = place_in(leading(grid, k), p)
    if front is None or has_ray(k, d, rows):
        return []
    places = whole_points(d, hall_at(piece[0], front)[2], most)
    return [point_at(grid, (*front, *place))[k:] for place in places]


def points_at(pieces, p, most):
    """Return the ascending tuple of all x with (p, x) in the set."""
    need_one_room(pieces)
    if len(pieces) > 0 and len(p) != pieces[0][0][0]:
        raise NotFit()
    need_finite_set(pieces)
    found = {}
    for piece in pieces:
        for x in _points_of(piece, p, most + 1):
            found[x] = True
        if len(found) > most:
            raise TooMany(most)
    return tuple(sorted(found))
