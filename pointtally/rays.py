"""Rays and bounds of halls, and the boxes that hold their points."""

from pointtally.addings import least, settled, summed
from pointtally.errors import NotBounded
from pointtally.forms import are_counts, are_numbers, form_times, is_number, letter_form, product_sum, word_of
from pointtally.fractions import floor_of
from pointtally.halls import hall_at
from pointtally.matrices import rank


def _headed(k, rows):
    """Return the heads of the rows as forms over the unknowns."""
    return tuple([(0, *row[k + 1:]) for row in rows])


def ray_or_bounds(k, d, rows):
    """Return ("ray", ray), or ("bounds", bounds) if the hall has no ray."""
    heads = _headed(k, rows)
    bounds = []
    for j in range(d):
        pair = []
        for sign in (1, -1):
            told = least(d, heads, form_times(letter_form(j, d), sign))
            if told[0] == "falls":
                return ("ray", told[2])
            pair.append(told[3:])
        bounds.append(tuple(pair))
    return ("bounds", tuple(bounds))


def has_ray(k, d, rows):
    """Tell whether the hall has a ray."""
    heads = _headed(k, rows)
    if rank([head[1:] for head in heads]) < d:
        return True
    # With full rank some head grows along each ray, and none falls.
    return least(d, heads, form_times(summed(d, heads, (1,) * len(heads)), -1))[0] == "falls"


def _is_ray(d, heads, value):
    """Tell of any value whether it is a ray of the heads."""
    if not are_numbers(value, d) or not any(value):
        return False
    return all([product_sum(head[1:], value) >= 0 for head in heads])


def _is_bound(d, heads, aim, value):
    """Tell of any value whether it is (n, factors) by which the heads add up to n times aim."""
    if not isinstance(value, tuple) or len(value) != 2:
        return False
    n, factors = value
    if not is_number(n) or n < 1 or not are_counts(factors, len(heads)):
        return False
    return summed(d, heads, factors) == form_times(aim, n)


def _is_bound_pair(d, heads, j, value):
    """Tell of any value whether it is the pair of bounds of unknown j."""
    if not isinstance(value, tuple) or len(value) != 2:
        return False
    aim = letter_form(j, d)
    return _is_bound(d, heads, aim, value[0]) and _is_bound(d, heads, form_times(aim, -1), value[1])


def is_ray_or_bounds(k, d, rows, value):
    """Tell of any value whether ray_or_bounds might return it."""
    heads = _headed(k, rows)
    word = word_of(value, 2)
    if word == "ray":
        return _is_ray(d, heads, value[1])
    if word != "bounds" or not isinstance(value[1], tuple) or len(value[1]) != d:
        return False
    return all([_is_bound_pair(d, heads, j, pair) for j, pair in enumerate(value[1])])


def box(k, d, rows, p):
    """Return the pairs (low, high) between which the unknowns are at p, None if no fractions fit."""
    here = hall_at((k, d, rows), p)[2]
    if settled(d, here)[0] == "factors":
        return None
    sides = []
    for j in range(d):
        up = least(d, here, letter_form(j, d))
        down = least(d, here, form_times(letter_form(j, d), -1))
        if up[0] == "falls" or down[0] == "falls":
            raise NotBounded()
        # Rounding down what is taken negative rounds up.
        sides.append((-floor_of((-up[1][0], up[1][1])), floor_of((-down[1][0], down[1][1]))))
    return tuple(sides)
