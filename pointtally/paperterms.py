"""What counting papers of plain pieces add up to, for all parameters or at one choice of them."""

from pointtally.fractions import plus
from pointtally.frames import Frame
from pointtally.grids import leading, place_in
from pointtally.halltallies import parts_by, terms_by
from pointtally.tallies import tidied, value
from pointtally.telescopes import moved_poly


def _led_weight(weight, grid):
    """Return the weight over the letters of a grid; None stays."""
    return None if weight is None else moved_poly(weight, grid)


def _hall_pairs(pieces, papers):
    """Return the pairs (piece, paper of its hall) of those pieces that have no empty paper."""
    return [(piece, paper) for piece, (word, paper) in zip(pieces, papers) if word == "hall"]


def _piece_terms(piece, paper, weight):
    """Return the terms, over the letters of points, that the paper of a piece's hall tells."""
    hall, grid = piece
    frame = Frame(hall[0], grid)
    told = []
    for rows, _, steps, poly in terms_by(hall, paper[0], parts_by(hall, paper), _led_weight(weight, grid)):
        told.append((frame.led_rows(rows), frame.gates, tuple(frame.led_steps(steps)), poly))
    return told


def tally_of_papers(pieces, papers, weight):
    """Return the tally that a counting paper of some plain pieces tells."""
    told = []
    for piece, paper in _hall_pairs(pieces, papers):
        told += _piece_terms(piece, paper, weight)
    return tidied(tuple(told))


def _piece_number(piece, paper, weight, p):
    """Return what the paper of a piece's hall tells at p, as a fraction."""
    hall, grid = piece
    y = place_in(leading(grid, hall[0]), p)
    if y is None:
        return (0, 1)
    # What does not hold at p need not be worked out.
    return value(terms_by(hall, paper[0], parts_by(hall, paper, y), _led_weight(weight, grid)), y)


def number_of_papers(pieces, papers, weight, p):
    """Return the value at p of the tally that a counting paper of some plain pieces tells, as a fraction."""
    total = (0, 1)
    for piece, paper in _hall_pairs(pieces, papers):
        total = plus(total, _piece_number(piece, paper, weight, p))
    return total
