"""Last letters of pieces fall away in as few pieces as may be; lots of pieces are made apart."""

from pointtally.addings import bare, has_fractions
from pointtally.falling import form_between, smaller_room, split_rows, ways_ahead
from pointtally.forms import form_plus, form_sum, form_times, letter_form, put_in
from pointtally.grids import divided_grid, grid_of, grid_within, leading, place_in, point_at, size_of
from pointtally.lessening import parted
from pointtally.matrices import turned
from pointtally.neighbours import Neighbours
from pointtally.pieces import led_rows
from pointtally.searching import lowered_rows


def tidied_piece(piece):
    """Return the piece with rows none of which follows from the others, None if no fractions keep them."""
    (k, d, rows), grid = piece
    low = lowered_rows(rows)
    if not has_fractions(k + d, low):
        return None
    return ((k, d, tuple([low[i] for i in bare(k + d, low)])), grid)


def tidied_pieces(pieces):
    """Return the pieces tidied, without those that no fractions keep."""
    told = [tidied_piece(piece) for piece in pieces]
    return [piece for piece in told if piece is not None]


def _parted_tidied(piece, other):
    """Return the parts of a piece outside another one, with few rows."""
    parts = parted(piece, other)
    return parts if parts == [piece] else tidied_pieces(parts)


def less_tidied(pieces, others):
    """Return pieces with the points of pieces outside all others, which are kept as neighbours."""
    return [part for piece in pieces for part in others.parts_outside(piece, _parted_tidied)]


def _fineness(lot):
    """Return how small a part of all points a lot of pieces has, about; coarse lots, taken first, leave few parts."""
    sizes = [(size_of(grid), len(rows)) for (_, _, rows), grid in lot]
    return min(sizes) if sizes else (0, 0)


def made_apart(lots):
    """Return pieces, apart from one another, with the points of some lots of pieces; each lot is apart already."""
    kept = Neighbours()
    for _, i in sorted([(_fineness(lot), i) for i, lot in enumerate(lots)]):
        for piece in less_tidied(lots[i], kept):
            kept.put(piece)
    return list(kept.pieces)


def _on_front(room, front, inner, rows):
    """Return the piece with rows over the letters of front, on the grid of those of its points that inner tells."""
    own = grid_within(front, inner)
    return ((*room, led_rows(rows, front, own)), own)


def _equal_pair(lowers, uppers):
    """Return (a, l) if there are a y >= l and a y <= l for the last letter y, otherwise None."""
    for lower in lowers:
        if lower in uppers:
            return lower
    return None


def _at_value(rows, value):
    """Return the rows without the last letter y, of which a y = l is known."""
    a, form = value
    return [form_sum(form_times(row[:-1], a), form_times(form, row[-1])) for row in rows]


def _is_exact(lowers, uppers):
    """Tell whether between whole bounds of each pair there is a whole number if there is a fraction."""
    return max([a for a, _ in lowers]) == 1 or max([b for b, _ in uppers]) == 1


def _cost(rows):
    """Return how many pieces come of it, about, if the last letter falls away."""
    _, lowers, uppers = split_rows(rows)
    if len(lowers) == 0 or len(uppers) == 0 or _equal_pair(lowers, uppers) is not None:
        return 1
    if _is_exact(lowers, uppers):
        return 1 + len(lowers) * len(uppers) // (2 * len(lowers) + 2 * len(uppers))
    return min(sum([a for a, _ in lowers]), sum([b for b, _ in uppers]))


def _split_shadows(room, front, parts):
    """Return the pieces that are left if the bounds of one kind are told by which is ahead and by its rest."""
    others, lowers, uppers = parts
    m = len(front[1])
    sign = 1
    if sum([b for b, _ in uppers]) < sum([a for a, _ in lowers]):
        lowers, uppers, sign = uppers, lowers, -1
    told = []
    for own, (a, form) in enumerate(lowers):
        ahead = ways_ahead(lowers, own, sign)
        for rest in range(a):
            bound = (a, form_plus(form, sign * rest))
            inner = divided_grid(m, *bound)
            if inner is not None:
                if sign > 0:
                    between = [form_between(bound, upper) for upper in uppers]
                else:
                    between = [form_between(lower, bound) for lower in uppers]
                told.append(_on_front(room, front, inner, (*others, *ahead, *between)))
    return told


def _sure_shadow(room, front, parts):
    """Return the piece where all bounds lie so far apart that some whole number is between them."""
    others, lowers, uppers = parts
    rows = list(others)
    for a, low in lowers:
        for b, high in uppers:
            rows.append(form_plus(form_between((a, low), (b, high)), -(a - 1) * (b - 1)))
    return tidied_pieces([((*room, tuple(rows)), front)])


def _last_shadows(piece, is_last):
    """Return pieces, apart, with the points of a tidied piece without the last entry.

    If more letters are to fall away, what is sure comes first: from it few pieces come, and the rest is thin.
    """
    (k, d, rows), grid = piece
    room = smaller_room(k, d)
    m = k + d - 1
    front = leading(grid, m)
    others, lowers, uppers = split_rows(rows)
    if len(lowers) == 0 or len(uppers) == 0:
        return [((*room, tuple(others)), front)]
    equal = _equal_pair(lowers, uppers)
    if equal is not None:
        inner = divided_grid(m, *equal)
        if inner is None:
            return []
        return tidied_pieces([_on_front(room, front, inner, _at_value(rows, equal))])
    if _is_exact(lowers, uppers):
        between = [form_between(lower, upper) for lower in lowers for upper in uppers]
        return tidied_pieces([((*room, (*others, *between)), front)])
    parts = tidied_pieces(_split_shadows(room, front, (others, lowers, uppers)))
    if is_last:
        return parts
    return made_apart([_sure_shadow(room, front, (others, lowers, uppers)), parts])


def _with_last(piece, place):
    """Return the piece over the letters in another sequence, in which the letter at a place is the last one."""
    (k, d, rows), grid = piece
    m = k + d
    order = [i for i in range(m) if i != place] + [place]
    back = [order.index(i) for i in range(m)]
    vectors = [tuple([column[i] for i in order]) for column in turned(grid[0], m)]
    own = grid_of(tuple(vectors), tuple([grid[1][i] for i in order]))
    units = [(0,) * m] + [letter_form(i, m)[1:] for i in range(m)]
    points = [point_at(own, unit) for unit in units]
    places = [place_in(grid, tuple([point[i] for i in back])) for point in points]
    columns = [places[0]] + [tuple([a - b for a, b in zip(at, places[0])]) for at in places[1:]]
    forms = turned(columns, m)
    return ((k, d, tuple([put_in(row, forms, m) for row in rows])), own)


def shadows(piece, count):
    """Return pieces, apart, with the points of a piece without the last so many entries."""
    first = tidied_piece(piece)
    if first is None:
        return []
    if count == 0:
        return [first]
    (k, d, _), _ = first
    choices = [first] + [_with_last(first, place) for place in range(k + d - 2, k + d - count - 1, -1)]
    costs = [_cost(choice[0][2]) for choice in choices]
    best = choices[costs.index(min(costs))]
    lots = []
    for child in _last_shadows(best, count == 1):
        lots.append(shadows(child, count - 1))
    return made_apart(lots)
