"""Halls: rows over parameters and unknowns."""

from pointtally.errors import NotHall
from pointtally.forms import form_value, is_between, is_form

MOST_PARAMETERS = 3
MOST_UNKNOWNS = 6
MOST_ROWS = 16


def hall_breach(value):
    """Return None if any value is a hall, otherwise the number of its first wrong part."""
    if not isinstance(value, tuple) or len(value) != 3:
        return 0
    k, d, rows = value
    if not is_between(k, 0, MOST_PARAMETERS):
        return 1
    if not is_between(d, 0, MOST_UNKNOWNS):
        return 2
    if not isinstance(rows, tuple) or len(rows) > MOST_ROWS:
        return 3
    for i, row in enumerate(rows):
        if not is_form(row, k + d):
            return 4 + i
    return None


def need_hall(value):
    """Raise NotHall unless value is a hall."""
    place = hall_breach(value)
    if place is not None:
        raise NotHall(place)


def conditions(hall):
    """Return the rows without unknowns, as forms over the parameters."""
    k, _, rows = hall
    return tuple([row[:k + 1] for row in rows if not any(row[k + 1:])])


def in_hall(hall, p, x):
    """Tell whether x is a point of the hall at p."""
    t = (*p, *x)
    return all([form_value(row, t) >= 0 for row in hall[2]])


def hall_at(hall, p):
    """Return the hall over the unknowns alone, with p put in for the parameters."""
    k, d, rows = hall
    return (0, d, tuple([(form_value(row[:k + 1], p), *row[k + 1:]) for row in rows]))
