"""The last letter of a piece falls away; papers that show that a piece has no point."""

from pointtally.addings import are_empty_factors, has_fractions, settled
from pointtally.forms import form_plus, form_sum, form_times, word_of
from pointtally.grids import divided_grid, grid_within, leading, meet
from pointtally.neighbours import left_by, sums_table
from pointtally.pieces import led_rows, made_rows
from pointtally.searching import whole_point


def split_rows(rows):
    """Return (others, lowers, uppers) by the last entry, lowers as pairs (a, l) and uppers as pairs (b, u).

    So a y >= l and b y <= u for the last letter y; others and forms are without it.
    """
    others, lowers, uppers = [], [], []
    for row in rows:
        rest, entry = row[:-1], row[-1]
        if entry > 0:
            lowers.append((entry, form_times(rest, -1)))
        elif entry < 0:
            uppers.append((-entry, rest))
        else:
            others.append(rest)
    return (others, lowers, uppers)


def smaller_room(k, d):
    """Return the room that is left when the last letter falls away."""
    return (k, d - 1) if d > 0 else (k - 1, 0)


def form_between(lower, upper):
    """Return the form that is from 0 on if a fraction fits between a lower and an upper bound (a, l), (b, u)."""
    (a, low), (b, high) = lower, upper
    return form_sum(form_times(high, a), form_times(low, -b))


def ways_ahead(bounds, own, sign):
    """Return the rows by which bound number own is ahead of all others of its kind; the first one of equals.

    sign is 1 for lower bounds, where ahead is above, and -1 for upper ones.
    """
    a, form = bounds[own]
    rows = []
    for g, (b, other) in enumerate(bounds):
        if g != own:
            row = form_sum(form_times(form, sign * b), form_times(other, -sign * a))
            rows.append(form_plus(row, -1) if g < own else row)
    return rows


def children(piece):
    """Return the pieces without the last letter, one for each way in which its bounds stand."""
    return tuple(_told_children(piece, False))


def kept_children(piece):
    """Return the list of those children whose rows some fractions keep."""
    return _told_children(piece, True)


def _told_children(piece, is_kept):
    """Return the list of the children, or of those alone whose rows some fractions keep."""
    (k, d, rows), grid = piece
    room = smaller_room(k, d)
    m = k + d - 1
    others, lowers, uppers = split_rows(rows)
    front = leading(grid, m)
    if len(lowers) == 0 or len(uppers) == 0:
        return [((*room, tuple(others)), front)] if not is_kept or has_fractions(m, others) else []
    told = []
    highs = [_upper_ways(m, uppers, j) for j in range(len(uppers))]
    for i in range(len(lowers)):
        lows = _lower_ways(m, lowers, i)
        for j in range(len(uppers)):
            ahead = [*others, *ways_ahead(lowers, i, 1), *ways_ahead(uppers, j, -1)]
            # Without rests the rows hold wherever they do with some, so that all ways may fail at once.
            if not is_kept or has_fractions(m, (*ahead, form_between(lowers[i], uppers[j]))):
                told += [_child(room, front, ahead, ways) for ways in _meeting_ways(lows, highs[j])]
    return [child for child in told if not is_kept or has_fractions(m, child[0][2])]


def _meeting_ways(lows, highs):
    """Return the pairs of a way of lows and one of highs whose grids meet, in sequence."""
    if len(lows) <= 1 and len(highs) <= 1:
        return [(one, other) for one in lows for other in highs if meet(one[1], other[1]) is not None]
    # The grids of all lows have one table, and so have those of all highs.
    both = sums_table(lows[0][1][0], highs[0][1][0]) if lows and highs else ()
    by_left = {}
    for other in highs:
        by_left.setdefault(left_by(both, other[1][1]), []).append(other)
    return [(one, other) for one in lows for other in by_left.get(left_by(both, one[1][1]), [])]


def _child(room, front, ahead, ways):
    """Return the child whose bounds leave rests as ways tell, on grids that meet."""
    (lower, one), (upper, other) = ways
    own = grid_within(front, meet(one, other))
    return ((*room, made_rows(led_rows((*ahead, form_between(lower, upper)), front, own))), own)


def _lower_ways(m, lowers, i):
    """Return the pairs of (a, l + r) and the grid on which a divides l + r, by r."""
    a, low = lowers[i]
    bounds = [(a, form_plus(low, rest)) for rest in range(a)]
    return _with_grids(m, bounds)


def _upper_ways(m, uppers, j):
    """Return the pairs of (b, u - s) and the grid on which b divides u - s, by s."""
    b, high = uppers[j]
    bounds = [(b, form_plus(high, -rest)) for rest in range(b)]
    return _with_grids(m, bounds)


def _with_grids(m, bounds):
    """Return the pairs of a bound and the grid on which it is whole, without bounds that never are."""
    told = []
    for bound in bounds:
        grid = divided_grid(m, *bound)
        if grid is not None:
            told.append((bound, grid))
    return told


def _paper_of(piece):
    """Return an empty paper of a piece without a point."""
    (k, d, rows), _ = piece
    word, told = settled(k + d, rows)
    if word == "factors":
        return ("never", told)
    return ("fall", tuple([_paper_of(child) for child in children(piece)]))


def empty_paper(piece):
    """Return a paper that shows that a piece has no point, None if it has one."""
    (k, d, rows), _ = piece
    if whole_point(k + d, rows) is not None:
        return None
    return _paper_of(piece)


def is_empty_paper(piece, value):
    """Tell of any value whether it is an empty paper of a piece."""
    (k, d, rows), _ = piece
    word = word_of(value, 2)
    if word == "never":
        return are_empty_factors(k + d, rows, value[1])
    if word != "fall" or k + d == 0 or not isinstance(value[1], tuple):
        return False
    inner = children(piece)
    if len(inner) != len(value[1]):
        return False
    for child, paper in zip(inner, value[1]):
        if not is_empty_paper(child, paper):
            return False
    return True
