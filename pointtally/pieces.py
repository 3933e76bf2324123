"""Pieces: halls on grids."""

from pointtally.errors import NotFit
from pointtally.forms import lowered, put_in
from pointtally.grids import meet, place_in, place_map
from pointtally.halls import in_hall


def need_one_room(pieces):
    """Raise NotFit unless all pieces are over one room."""
    for hall, _ in pieces:
        if hall[:2] != pieces[0][0][:2]:
            raise NotFit()


def is_in(pieces, t):
    """Tell whether t is a point of some piece."""
    need_one_room(pieces)
    for hall, grid in pieces:
        y = place_in(grid, t)
        if y is not None and in_hall(hall, y[:hall[0]], y[hall[0]:]):
            return True
    return False


def made_rows(rows):
    """Return the rows lowered, each that stands ahead already left out."""
    made = []
    for row in rows:
        low = lowered(row)
        if low not in made:
            made.append(low)
    return tuple(made)


def led_rows(rows, grid, inner):
    """Return rows over the letters of grid as rows over those of inner, which grid holds."""
    if grid == inner:
        return rows
    table, start = place_map(grid, inner)
    forms = [(entry, *row) for entry, row in zip(start, table)]
    return tuple([put_in(row, forms, len(start)) for row in rows])


def on_grid(piece, grid):
    """Return the piece with the points of both, None if the grids do not meet."""
    (k, d, rows), own = piece
    shared = meet(own, grid)
    if shared is None:
        return None
    return ((k, d, made_rows(led_rows(rows, own, shared))), shared)
