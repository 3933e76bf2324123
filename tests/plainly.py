"""The plain pieces of a formula, step by step as the document tells them, with slow ways for each step."""

from pointtally.forms import lowered
from pointtally.grids import divided_grid, meet, whole_grid
from tests.oracles import no_fractions
from tests.test_falling import led_by_values, told_children


def made(rows):
    """Return the rows, lowered ones as they are, each once."""
    found = []
    for row in rows:
        if row not in found:
            found.append(row)
    return tuple(found)


def fine(pieces):
    """Return those pieces whose rows some fractions keep."""
    return [piece for piece in pieces if piece is not None and not no_fractions(piece[0][2])]


def on(piece, rows, row_grid, grid):
    """Return the piece on the meet of its grid and another one, with more rows from a third one; None if apart."""
    (k, d, own), own_grid = piece
    shared = meet(own_grid, grid)
    if shared is None:
        return None
    led = [led_by_values(row, own_grid, shared) for row in own] + [led_by_values(row, row_grid, shared) for row in rows]
    return ((k, d, made(led)), shared)


def joint(one, other):
    return on(one, other[0][2], other[1], other[1])


def parted(piece, other):
    (_, _, rows), (table, s) = other
    both = joint(piece, other)
    if not fine([both]):
        return [piece]
    m = len(s)
    parts = []
    for i in range(m):
        for e in range(1, table[i][i]):
            start = (*s[:i], (s[i] + e) % table[i][i], *[0] * (m - 1 - i))
            parts.append(on(piece, (), None, ((*table[:i + 1], *whole_grid(m)[0][i + 1:]), start)))
    for i, row in enumerate(rows):
        last = (-row[0] - 1, *(-entry for entry in row[1:]))
        parts.append(on(piece, (*rows[:i], last), (table, s), (table, s)))
    return fine(parts)


def less(piece, others):
    left = [piece]
    for other in others:
        left = [part for old in left for part in parted(old, other)]
    return left


def plain(k, d, formula):
    """Return the list of the plain pieces."""
    word = formula[0]
    room = ((k, d, ()), whole_grid(k + d))
    if word == "row":
        return fine([((k, d, (lowered(formula[1]),)), room[1])])
    if word == "divides":
        grid = divided_grid(k + d, *formula[1:])
        return [] if grid is None else [((k, d, ()), grid)]
    if word == "and":
        found = [room]
        for inner in formula[1:]:
            sons = plain(k, d, inner)
            found = fine([joint(one, other) for one in found for other in sons])
        return found
    if word == "not":
        return less(room, plain(k, d, formula[1]))
    found = []
    if word == "or":
        for inner in formula[1:]:
            ahead = list(found)
            for piece in plain(k, d, inner):
                found += less(piece, ahead)
        return found
    for piece in plain(k, d + 1, formula[1]):
        ahead = list(found)
        for child in fine(told_children(piece)):
            found += less(child, ahead)
    return found
