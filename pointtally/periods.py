"""Whether step polynomials are alike for all p, and how they repeat."""

from math import lcm

from pointtally.forms import form_value
from pointtally.polys import form_lot, lot_of, poly_of, put_lots
from pointtally.steppolys import normal, plus, scaled, value_at


def _period(sp):
    """Return the least common multiple of all n."""
    size = 1
    for n, _ in sp[0]:
        size = lcm(size, n)
    return size


def _classes(k, size):
    """Return all tuples of k rests by a size, ascending."""
    found = [()]
    for _ in range(k):
        found = [(*rests, entry) for rests in found for entry in range(size)]
    return found


def _told_polys(k, sp, size):
    """Return for each class of rests the number of its POLY in p, and the list of these POLYs.

    On a class each step is its form, less what is left of it, divided by n; so the POLY hangs on what is left.
    """
    steps, poly = sp
    lot = lot_of(poly)
    known, numbers, told = {}, {}, []
    polys = {}
    for rests in _classes(k, size):
        left = tuple([form_value(form, rests) % n for n, form in steps])
        if left not in known:
            lots = [form_lot((form[0] - own, *form[1:]), n) for own, (n, form) in zip(left, steps)]
            found = poly_of(put_lots(lot, lots, k))
            if found not in polys:
                polys[found] = len(told)
                told.append(found)
            known[left] = polys[found]
        numbers[rests] = known[left]
    return (numbers, told)


def shell(k, total):
    """Return the tuples of k integers whose absolute values add up to a total, ascending."""
    if k == 0:
        return [()] if total == 0 else []
    if k == 1:
        return [(-total,), (total,)] if total > 0 else [(0,)]
    found = []
    for first in range(-total, total + 1):
        found += [(first, *rest) for rest in shell(k - 1, total - abs(first))]
    return found


def alike_steps(k, one, other):
    """Return None if both have the same values everywhere, otherwise the least p at which they part."""
    rest = plus(k, one, scaled(k, other, (-1, 1)))
    _, told = _told_polys(k, rest, _period(rest))
    if not any(told):
        return None
    total = 0
    while True:
        for p in shell(k, total):
            if value_at(k, rest, p)[0] != 0:
                return p
        total += 1


def least_period(k, sp):
    """Return the least N such that on each class of rests by N the value is that of one polynomial in p."""
    short = normal(k, sp)
    size = _period(short)
    numbers, _ = _told_polys(k, short, size)
    part = 2
    left = size
    while part <= left:
        if left % part != 0:
            part += 1
        else:
            left = left // part
            if _repeats(numbers, size // part):
                size = size // part
    return size


def _repeats(numbers, size):
    """Tell whether classes with the same rests by a size have the same POLY."""
    found = {}
    for rests, number in numbers.items():
        if found.setdefault(tuple([rest % size for rest in rests]), number) != number:
            return False
    return True
