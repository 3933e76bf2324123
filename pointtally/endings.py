"""Whether a formula holds at points without end."""

from pointtally.addings import least
from pointtally.formulas import FALSE, TRUE
from pointtally.forms import form_times, letter_form
from pointtally.lessening import has_room, room_piece
from pointtally.rays import has_ray
from pointtally.searching import whole_point
from pointtally.splits import handled, ways_on


def _letters_in(formula):
    """Return how many letters _loosened needs behind those of a handled formula."""
    word = formula[0]
    if word == "some":
        return 1 + _letters_in(formula[1])
    if word not in ("and", "or"):
        return 0
    many = [_letters_in(part) for part in formula[1:]]
    return sum(many) if word == "and" else max([0, *many])


def _loosened(formula, places, free, wide):
    """Return a formula of rows over as many letters as wide tells, that holds wherever a handled formula does.

    Letters stand in their places; those behind "some" are let stand there, from number free on. What is not told by
    rows is left out.
    """
    word = formula[0]
    if word == "row":
        told = [0] * (wide + 1)
        told[0] = formula[1][0]
        for place, entry in zip(places, formula[1][1:]):
            told[place + 1] = entry
        return ("row", tuple(told))
    if word == "some":
        return _loosened(formula[1], (*places, free), free + 1, wide)
    if word not in ("and", "or"):
        return TRUE
    parts = []
    for part in formula[1:]:
        parts.append(_loosened(part, places, free, wide))
        free += _letters_in(part) if word == "and" else 0
    return (word, *parts)


def _is_open(hall, count):
    """Tell whether rows leave one of the first count unknowns of a hall without an end."""
    k, d, rows = hall
    heads = tuple([(0, *row[k + 1:]) for row in rows])
    for j in range(count):
        for sign in (1, -1):
            if least(d, heads, form_times(letter_form(j, d), sign))[0] == "falls":
                return True
    return False


def _with_rows(piece, parts):
    """Return (piece, parts) with the rows among the parts put into the piece, None if no fractions keep them."""
    (k, d, rows), grid = piece
    left = []
    for part in parts:
        if part[0] == "row":
            rows = (*rows, part[1])
        elif part[0] == "and":
            left += list(part[1:])
        else:
            left.append(part)
    told = ((k, d, rows), grid)
    return (told, left) if len(rows) == len(piece[0][2]) or has_room(told) else None


def _may_go_on(k, d, formula):
    """Tell whether the rows of a handled formula, as _loosened has them, leave an unknown without an end somewhere.

    What holds in some of several ways has an end if it has one in each of them alone.
    """
    wide = k + d + _letters_in(formula)
    waiting = [(room_piece(k, wide - k), [_loosened(formula, tuple(range(k + d)), k + d, wide)])]
    while waiting:
        piece, parts = waiting.pop()
        told = _with_rows(piece, parts)
        if told is not None and (told[1] or _is_open(told[0][0], d)):
            inner, left = told
            places = [i for i, part in enumerate(left) if part[0] == "or"]
            if len(left) == 0:
                return True
            if len(places) < len(left):
                waiting.append((inner, left))
            elif _is_open(inner[0], d):
                rest = left[1:]
                waiting += [(inner, [part, *rest]) for part in left[0][1:]]
    return False


def goes_on(k, d, formula):
    """Tell whether at some p a formula holds at points without end."""
    told = handled(formula)
    # Rows alone often tell that there is an end, without a look at what "some" leaves.
    if not _may_go_on(k, d, told):
        return False
    waiting = [(room_piece(k, d), told)]
    while waiting:
        piece, rest = waiting.pop()
        # A piece without a ray holds finitely many points, whatever is decided in it.
        hall = piece[0]
        if rest != FALSE and has_ray(*hall):
            if rest != TRUE:
                waiting += ways_on(piece, rest, k + d)
            elif whole_point(k + d, hall[2]) is not None:
                return True
    return False
