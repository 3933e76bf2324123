"""Indexes of rays, and near rows."""

from pointtally.errors import Singular
from pointtally.forms import are_numbers, letter_form
from pointtally.matrices import determinant, parts_of, times_row


def index_of(rays):
    """Return the absolute value of the determinant."""
    size = abs(determinant(rays))
    if size == 0:
        raise Singular()
    return size


def _nearest_rest(number, size):
    """Return what is left of a number less the multiple of size that is nearest to it."""
    rest = number % size
    return rest - size if 2 * rest > size else rest


def near_row(rays):
    """Return a whole row, not all 0, whose parts by the rays are at most a half; None for the index 1."""
    size = index_of(rays)
    for i in range(len(rays)):
        # Whole sums of the rays hold all unit rows only for the index 1; else something is left of one.
        numbers, _ = parts_of(rays, letter_form(i, len(rays))[1:])
        rests = tuple([_nearest_rest(number, size) for number in numbers])
        if any(rests):
            return tuple([entry // size for entry in times_row(rests, rays)])
    return None


def is_near_row(rays, value):
    """Tell of any value whether it is a near row of the rays."""
    size = index_of(rays)
    if not are_numbers(value, len(rays)) or not any(value):
        return False
    numbers, _ = parts_of(rays, value)
    return all([2 * abs(number) <= size for number in numbers])
