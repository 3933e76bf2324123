"""Counting papers: what shows how many points a formula has, piece by piece."""

from pointtally.endings import goes_on
from pointtally.errors import NotBounded, NotPaper
from pointtally.falling import empty_paper, is_empty_paper
from pointtally.forms import word_of
from pointtally.formulas import need_formula
from pointtally.halltallies import hall_paper, is_hall_paper
from pointtally.lessening import plain_list
from pointtally.paperterms import number_of_papers, tally_of_papers
from pointtally.rays import has_ray


def _is_entry(piece, value):
    """Tell whether an entry of a counting paper is right for a piece, its word being right."""
    word, paper = value
    return is_hall_paper(piece[0], paper) if word == "hall" else is_empty_paper(piece, paper)


def _breach(pieces, value):
    """Return None for a tuple that is a counting paper of some plain pieces, else what counting_breach tells."""
    if len(value) != len(pieces):
        return -1
    if not all([word_of(entry, 2) in ("hall", "empty") for entry in value]):
        return -1
    for i, (piece, entry) in enumerate(zip(pieces, value)):
        if not _is_entry(piece, entry):
            return i
    return None


def _pieces_and_breach(k, d, formula, value):
    """Return (plain pieces, what counting_breach tells of any value); no pieces for what is no tuple."""
    if not isinstance(value, tuple):
        return ([], -1)
    pieces = plain_list(k, d, formula)
    return (pieces, _breach(pieces, value))


def counting_breach(k, d, formula, value):
    """Return None if any value is a counting paper, -1 for what are no such entries, else the first wrong one."""
    need_formula(formula, k + d)
    return _pieces_and_breach(k, d, formula, value)[1]


def _papers(pieces):
    """Return a counting paper of the plain pieces of a finite formula."""
    told = []
    for piece in pieces:
        # A piece that goes on has no point, as the formula is finite.
        hall = piece[0]
        told.append(("empty", empty_paper(piece)) if has_ray(*hall) else ("hall", hall_paper(hall)))
    return tuple(told)


def counting_paper(k, d, formula):
    """Return a counting paper of a finite formula."""
    need_formula(formula, k + d)
    if goes_on(k, d, formula):
        raise NotBounded()
    return _papers(plain_list(k, d, formula))


def tally_from(k, d, formula, value, weight=None):
    """Return a tally of the number of points, or of the sum of a weight over them, made from a counting paper."""
    pieces, place = _pieces_and_breach(k, d, formula, value)
    if place is not None:
        raise NotPaper((place,))
    return tally_of_papers(pieces, value, weight)


def paper_and_tally(k, d, formula):
    """Return (counting paper, tally of the number of points that it tells) of a finite formula."""
    pieces = plain_list(k, d, formula)
    papers = _papers(pieces)
    return (papers, tally_of_papers(pieces, papers, None))


def paper_and_number(k, d, formula, weight, p):
    """Return (counting paper, value of its tally at p) of a finite formula."""
    pieces = plain_list(k, d, formula)
    papers = _papers(pieces)
    return (papers, number_of_papers(pieces, papers, weight, p))


def tally_or_none(k, d, formula, value):
    """Return the tally of the number of points that any value tells as a counting paper, None if it is none."""
    pieces, place = _pieces_and_breach(k, d, formula, value)
    return tally_of_papers(pieces, value, None) if place is None else None


def number_or_none(k, d, formula, value, weight, p):
    """Return the value at p of the tally that any value tells as a counting paper, None if it is none."""
    pieces, place = _pieces_and_breach(k, d, formula, value)
    return number_of_papers(pieces, value, weight, p) if place is None else None
