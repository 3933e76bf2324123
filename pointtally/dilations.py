"""How many whole points the multiples of a body have, told for all multiples."""

from math import lcm

from pointtally.addings import inside
from pointtally.classpolys import class_sum
from pointtally.errors import NotBounded
from pointtally.forms import form_value
from pointtally.fractions import fraction, plus
from pointtally.halltallies import hall_tally
from pointtally.rays import has_ray

NONE = (1, ((),))


def _least_size(size, lines):
    """Return the least number of classes by which lists of numbers repeat."""
    part, left = 2, size
    while part <= left:
        if left % part != 0:
            part += 1
        else:
            left = left // part
            short = size // part
            if all([line[short:] == line[:size - short] for line in lines]):
                size = short
    return size


def _told_of(parts):
    """Return (period, polys) of a class sum over one letter, as lists by the letter's exponents."""
    period, top, led = 1, 0, []
    for _, size, (by, lines) in parts:
        short = _least_size(size, list(lines.values()))
        period = lcm(period, short)
        top = max([top, *[exponent for (exponent,) in lines]])
        led.append((short, by, lines))
    polys = []
    for rest in range(period):
        poly = [(0, 1)] * (top + 1)
        for short, by, lines in led:
            for (exponent,), line in lines.items():
                poly[exponent] = plus(poly[exponent], fraction(line[rest % short], by))
        while poly and poly[-1][0] == 0:
            poly.pop()
        polys.append(tuple(poly))
    return (period, tuple(polys))


def dilation(d, rows):
    """Return (period, polys) that tell how many points the t-fold body of some rows has, for t from 1."""
    hall = (1, d, tuple([(0, *row) for row in rows]))
    if has_ray(1, d, hall[2]):
        raise NotBounded()
    # The rows of terms are those of t-fold corners, so that those that hold at 1 hold at each t from 1.
    terms = [term for term in hall_tally(hall) if all([form_value(row, (1,)) >= 0 for row in term[0]])]
    return _told_of(class_sum(1, terms).parts)


def dilation_value(told, t):
    """Return the value of a told pair at any integer t, as a fraction."""
    period, polys = told
    total, power = (0, 1), 1
    for a, b in polys[t % period]:
        total = plus(total, fraction(a * power, b))
        power = power * t
    return total


def inner_dilation(d, rows):
    """Return (period, polys) that tell how many points lie inside the t-fold body, on no wall of it."""
    period, polys = dilation(d, rows)
    if inside(d, rows)[0] != "inside":
        return NONE
    # What is inside at t is what there is at -t, but for the sign.
    told = []
    for rest in range(period):
        poly = []
        for exponent, (a, b) in enumerate(polys[-rest % period]):
            poly.append((a, b) if (exponent + d) % 2 == 0 else (-a, b))
        told.append(tuple(poly))
    return (period, tuple(told))
