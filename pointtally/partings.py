"""Where sums of terms that hold throughout a system are not 0."""

from pointtally.addings import has_fractions
from pointtally.forms import form_plus, form_times, form_value, letter_form
from pointtally.searching import (
    form_values, last_ends, led_low_rows, line_ends, lowered_rows, rows_at_last, short_letters, span, whole_point,
    whole_points,
)

FEW = 12


def _by_powers(told):
    """Return triples (n, by, lists) for a function of one letter: lists by the letter's power, the greatest first."""
    found = []
    for _, size, (by, lines) in told.parts:
        top = max([exponent for (exponent,) in lines])
        none = [0] * size
        found.append((size, by, [lines.get((exponent,), none) for exponent in range(top, -1, -1)]))
    return found


def _is_nought(found, number):
    """Tell whether what _by_powers tells is 0 at a number."""
    above, below = 0, 1
    for size, by, lists in found:
        place, total = number % size, 0
        for line in lists:
            total = total * number + line[place]
        above, below = above * by + total * below, below * by
    return above == 0


def _line_point(rows, told):
    """Return a number at which a function of one letter is not 0, None if there is none."""
    low, high = line_ends(rows)
    found = _by_powers(told)
    for number in range(low, min(high + 1, low + told.count_to_end())):
        if not _is_nought(found, number):
            return (number,)
    return None


def nonzero_point(m, rows, told):
    """Return a whole point of rows without a ray at which a class sum is not 0, None if there is none."""
    if len(told.parts) == 0:
        return None
    rows = lowered_rows(rows)
    points = [] if whole_point(m, rows) is None else whole_points(m, rows, FEW)
    for point in points:
        if not told.is_nought_at(point):
            return point
    if len(points) < FEW:
        return None
    if m == 1:
        return _line_point(rows, told)
    n, letters = short_letters(m, rows)
    inner, led = led_low_rows(rows, letters, n), told.led(letters, n)
    found = nonzero_point(n, inner, led) if n < m else _sliced_point(n, inner, led)
    return None if found is None else form_values(letters, found)


def _sliced_point(m, rows, told):
    """Return such a point, the last letter being chosen first, from the middle out."""
    low, high = last_ends(m, rows)
    number, step = (low + high) // 2, 0
    letters = [letter_form(i, m - 1) for i in range(m - 1)]
    while low <= number <= high:
        inner = rows_at_last(rows, number)
        if has_fractions(m - 1, inner):
            led = told.led((*letters, (number, *[0] * (m - 1))), m - 1)
            point = nonzero_point(m - 1, inner, led)
            if point is not None:
                return (*point, number)
        step = -step - 1 if step > 0 else -step + 1
        number += step
    return None


def _held(rows, form, low, high):
    """Return the rows with a form held from low to high."""
    return (*rows, form_plus(form, -low), form_plus(form_times(form, -1), high))


def _least_value(m, rows, form, told, point):
    """Return (value, point) of a form at least, of the points that nonzero_point may tell, of which one is known."""
    a, b = span(m, rows, form)[0]
    low, high, width = -(-a // b), form_value(form, point), 1
    while low < high:
        middle = min(low + width - 1, high - 1)
        found = nonzero_point(m, _held(rows, form, low, middle), told)
        if found is None:
            low, width = middle + 1, 2 * width
        else:
            point, high = found, form_value(form, found)
            width = max(1, (high - low) // 2)
    return (high, point)


def least_parting(k, rows, norm, told, most):
    """Return the point with the least norm up to most at which a class sum is not 0, None if there is none.

    norm is a form that has no ray with the rows; of points with the least one, it is the least as a tuple.
    """
    held = (*rows, form_plus(form_times(norm, -1), most))
    point = nonzero_point(k, held, told)
    if point is None:
        return None
    for form in (norm, *[letter_form(i, k) for i in range(k)]):
        number, point = _least_value(k, held, form, told, point)
        held = _held(held, form, number, number)
    return point
