"""Cones of rays at an apex, turned by a direction."""

from math import lcm

from pointtally.forms import product_sum
from pointtally.matrices import inverted, turned


def replaced(rays, i, w):
    """Return the rays with the vector w in the place i."""
    return (*rays[:i], w, *rays[i + 1:])


def _is_above(parts):
    """Tell whether the first part that is not 0 is above 0."""
    for part in parts:
        if part != 0:
            return part > 0
    return False


def holds(rays, lam, apex, x):
    """Return the sign of the turned cone at an apex if it has x, otherwise 0."""
    size = 1
    for _, _, by in apex:
        size = lcm(size, by)
    length = max([0, *[len(ts) for _, ts, _ in apex]])
    # Each entry of x less that of the apex: its number, and behind it what is less than any fraction.
    ways = []
    for number, ((first,), ts, by) in zip(x, apex):
        times = size // by
        ways.append((number * size - first * times, *[-times * t for t in ts], *[0] * (length - len(ts))))
    columns = turned(ways, length + 1)
    sign = 1
    for ray, back in zip(rays, turned(inverted(rays)[0], len(rays))):
        rises = product_sum(lam, ray) > 0
        if _is_above([product_sum(column, back) for column in columns]) == rises:
            return 0
        if rises:
            sign = -sign
    return sign
