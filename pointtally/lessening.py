"""Pieces with and less other pieces, and the plain pieces of a formula."""

from pointtally.addings import has_fractions
from pointtally.falling import kept_children
from pointtally.forms import form_plus, form_times, letter_form, lowered
from pointtally.grids import divided_grid, meet, size_of, whole_grid
from pointtally.neighbours import Neighbours, neighbours_of, sums_table
from pointtally.pieces import led_rows, made_rows, on_grid


def has_room(piece):
    """Tell whether some fractions keep the rows of a piece."""
    (k, d, rows), _ = piece
    return has_fractions(k + d, rows)


def kept_pieces(pieces):
    """Return the list of those pieces whose rows some fractions keep; None is no piece."""
    return [piece for piece in pieces if piece is not None and has_room(piece)]


def _shared(one, other):
    """Return (grid, rows of one, rows of other) on the meet of both grids, None if they do not meet."""
    (_, _, rows), grid = one
    (_, _, other_rows), other_grid = other
    if grid == other_grid:
        return (grid, rows, other_rows)
    inner = meet(grid, other_grid)
    if inner is None:
        return None
    return (inner, led_rows(rows, grid, inner), led_rows(other_rows, other_grid, inner))


def with_piece(one, other):
    """Return the piece with the points of both, None if the grids do not meet or no fractions keep its rows."""
    told = _shared(one, other)
    if told is None:
        return None
    grid, rows, other_rows = told
    piece = ((*one[0][:2], made_rows((*rows, *other_rows))), grid)
    return piece if has_room(piece) else None


def _meeting_steps(both, start, s, i, size):
    """Return the list of the steps from 1 to size - 1 that, added to entry i of s modulo size, let two grids meet.

    The one grid has the start, the other one the entries of s up to i, unit rows behind; both is the table of
    all sums of the columns of both grids' tables.
    """
    left = [*[entry - own for entry, own in zip(start[:i], s)], *start[i:]]
    for j in range(i):
        if left[j] % both[j][j] != 0:
            return []
        times = left[j] // both[j][j]
        left = [entry - times * row[j] for entry, row in zip(left, both)]
    first = (left[i] - s[i]) % both[i][i]
    return list(range(first if first > 0 else both[i][i], size, both[i][i]))


def _beside_parts(piece, grid):
    """Return the parts of a piece, apart from one another, that are on no point of a grid."""
    table, s = grid
    own, start = piece[1]
    m = len(s)
    told = []
    for i, row in enumerate(table):
        if row[i] > 1:
            wide = (*table[:i + 1], *[letter_form(j, m)[1:] for j in range(i + 1, m)])
            for step in _meeting_steps(sums_table(own, wide), start, s, i, row[i]):
                beside = (*s[:i], (s[i] + step) % row[i], *[0] * (m - i - 1))
                told.append(on_grid(piece, (wide, beside)))
    return told


def parted(piece, other):
    """Return the parts of a piece that lie outside the other one, apart from one another."""
    told = _shared(piece, other)
    if told is None:
        return [piece]
    grid, rows, other_rows = told
    room = piece[0][:2]
    if not has_room(((*room, made_rows((*rows, *other_rows))), grid)):
        return [piece]
    parts = _beside_parts(piece, other[1]) if grid != piece[1] else []
    for i, row in enumerate(other_rows):
        denied = form_plus(form_times(row, -1), -1)
        parts.append(((*room, made_rows((*rows, *other_rows[:i], denied))), grid))
    return kept_pieces(parts)


def less(pieces, others):
    """Return the list of the parts of the pieces that lie outside all others, which are kept as neighbours."""
    return [part for piece in pieces for part in others.parts_outside(piece, parted)]


def _joint(one, other):
    """Return the list of pieces i WITH pieces j, by (i, j)."""
    told = [with_piece(piece, inner) for piece in one for inner in other]
    return [piece for piece in told if piece is not None]


def room_piece(k, d):
    """Return the piece with all points."""
    return ((k, d, ()), whole_grid(k + d))


def _is_room(piece):
    """Tell whether a piece can be seen to have all points, so that nothing is left of others less it."""
    (k, d, rows), grid = piece
    return size_of(grid) == 1 and not any([any(row[1:]) for row in rows])


class Gathering:
    """Takes lots of pieces in, those of each lot less those of earlier ones."""

    def __init__(self):
        self.taken = Neighbours()
        self.is_full = False

    def take(self, lot):
        """Take a lot in."""
        for piece in less(lot, self.taken):
            self.taken.put(piece)
            self.is_full = self.is_full or _is_room(piece)


def plain_list(k, d, formula):
    """Return the list of the plain pieces of a formula."""
    word = formula[0]
    whole = room_piece(k, d)
    if word == "row":
        return kept_pieces([((k, d, (lowered(formula[1]),)), whole[1])])
    if word == "divides":
        grid = divided_grid(k + d, formula[1], formula[2])
        return [] if grid is None else [((k, d, ()), grid)]
    if word == "not":
        return less([whole], neighbours_of(plain_list(k, d, formula[1])))
    if word == "and":
        found = [whole]
        for inner in formula[1:]:
            found = _joint(found, plain_list(k, d, inner)) if found else []
        return found
    gathering = Gathering()
    sons = plain_list(k, d + 1, formula[1]) if word == "some" else formula[1:]
    for son in sons:
        if not gathering.is_full:
            gathering.take(kept_children(son) if word == "some" else plain_list(k, d, son))
    return list(gathering.taken.pieces)
