"""Whole vectors that have small parts by some rays."""

from pointtally.forms import form_sum, form_times, product_sum
from pointtally.matrices import inverted, times_row
from pointtally.reducing import reduced_rows

FEW = 100


def _rest(number, size):
    """Return what is left of a number less the multiple of size that is nearest to it."""
    rest = number % size
    return rest - size if 2 * rest > size else rest


def _weight(numbers):
    """Return what tells how good parts are: the less they add up to, the fewer cones come of them."""
    return (sum([abs(number) for number in numbers]), numbers)


def _few_numbers(lines, size):
    """Return all unlike rests by size, none all 0, of whole sums of some lines of numbers."""
    d = len(lines)
    found = {(0,) * d: True}
    for line in lines:
        if line not in found:
            step, fresh = line, []
            while step not in found:
                fresh += [_rests_of([a + b for a, b in zip(old, step)], size) for old in found]
                step = _rests_of([a + b for a, b in zip(step, line)], size)
            for numbers in fresh:
                found[numbers] = True
    return [numbers for numbers in found if any(numbers)]


def _rests_of(numbers, size):
    """Return the rests nearest to 0."""
    return tuple([_rest(number, size) for number in numbers])


def _short_numbers(lines, size):
    """Return rests by size, none all 0, of whole sums of lines that are made short; the least is there, or nearly."""
    table = reduced_rows([[product_sum(one, other) for other in lines] for one in lines])
    found = [(0,) * len(lines)]
    for row in table:
        line = times_row(row, lines)
        more = [form_sum(old, line) for old in found]
        found = found + more + [form_sum(old, form_times(line, -1)) for old in found]
    rests = [_rests_of(numbers, size) for numbers in found]
    return [numbers for numbers in rests if any(numbers)]


def short_vector(rays):
    """Return (w, numbers), a whole vector w whose parts by the rays are numbers divided by the index above 1.

    The parts are at most a half, and together as small as may be. Of two vectors of opposite signs, the one is
    taken that has the greater number above 0.
    """
    lines, size = inverted(rays)
    rests = tuple([_rests_of(line, size) for line in lines])
    if size <= FEW:
        choices = _few_numbers(rests, size)
    else:
        choices = _short_numbers(lines, size)
    numbers = min(choices, key=_weight)
    if max(numbers) < -min(numbers):
        numbers = tuple([-number for number in numbers])
    return (tuple([entry // size for entry in times_row(numbers, rays)]), numbers)
