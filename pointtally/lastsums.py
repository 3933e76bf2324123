"""Polynomials in roundings, summed over the last letter of a system of rows.

A PART is (steps, poly), a normal step polynomial over the letters; a SUMMAND is a tuple of parts, which are added up.
Up to a bound u / b, numbers x = N z + r have the z up to (u - b r) / (b N), rounded down: so each power of z adds a
polynomial in this rounding, told at each bound alone.
"""

from math import lcm

from pointtally.falling import form_between, split_rows, ways_ahead
from pointtally.forms import form_plus, led_form
from pointtally.fractions import fraction
from pointtally.polys import form_lot, lot_of, lot_scaled, lots_sum, poly_of, put_lots
from pointtally.steppolys import normal_letters, without_idle
from pointtally.telescopes import power_lots


def told_part(m, steps, lot):
    """Return the part over m letters that a lot over steps is."""
    letters, forms = normal_letters(m, steps)
    return without_idle(letters, put_lots(lot, [form_lot(form) for form in forms], len(letters)))


def gathered(parts):
    """Return the summand of some parts, each lot of steps once."""
    found = {}
    for steps, poly in parts:
        found.setdefault(steps, []).append(lot_of(poly))
    told = []
    for steps, lots in found.items():
        part = without_idle(steps, lots_sum(lots)) if len(lots) > 1 else (steps, poly_of(lots[0]))
        if part[1]:
            told.append(part)
    return tuple(told)


def put_in_summand(summand, forms, n):
    """Return the summand over n letters that comes of forms for the letters."""
    told = []
    for steps, poly in summand:
        led = [(size, led_form(form, forms, n)) for size, form in steps]
        told.append(told_part(n, led, lot_of(poly)))
    return gathered(told)


def classes_of(part):
    """Return how many classes of the last letter there are, on each of which all roundings are forms in it."""
    size = 1
    for n, form in part[0]:
        # Steps by 1 are letters, and normal ones have no common part with all of their entries.
        size = lcm(size, fraction(form[-1], n)[1])
    return size


def by_roundings(part):
    """Return parts that add up to a part, each with products of the same roundings of the last letter alone."""
    steps, poly = part
    terms, by = lot_of(poly)
    groups = {}
    for exponents, number in terms.items():
        used = [step for step, exponent in zip(steps, exponents) if exponent > 0]
        key = tuple([step for step in used if step[0] > 1 and step[1][-1] != 0])
        groups.setdefault(key, {})[exponents] = number
    return [without_idle(steps, (group, by)) for group in list(groups.values())]


def _on_class(part, size, rest):
    """Return (steps over the other letters, lot over these and z) of a part at last letters size * z + rest."""
    steps, poly = part
    own, lots = [], []
    for i, (n, form) in enumerate(steps):
        own.append((n, form_plus(form[:-1], form[-1] * rest)))
        told = [0] * (len(steps) + 2)
        told[i + 1], told[-1] = 1, form[-1] * size // n
        lots.append(form_lot(tuple(told)))
    return (own, put_lots(lot_of(poly), lots, len(steps) + 1))


def _with_powers(lot, powers):
    """Return the lot in which the powers of its last letter are replaced by lots over one letter."""
    terms, by = lot
    lots = []
    for exponents, number in terms.items():
        told, size = powers[exponents[-1]]
        lots.append(({(*exponents[:-1], more): number * entry for (more,), entry in told.items()}, size * by))
    return lots_sum(lots)


class LastSums:
    """Tells what a summand adds up to over the last letter, up to bounds."""

    def __init__(self, m, summand):
        self.m = m
        self.told = []
        top = 0
        for part in [inner for whole in summand for inner in by_roundings(whole)]:
            size = classes_of(part)
            for rest in range(size):
                steps, lot = _on_class(part, size, rest)
                self.told.append((size, rest, steps, lot))
                top = max([top, *[exponents[-1] for exponents in lot[0]]])
        powers = power_lots(top)
        self.told = [(size, rest, steps, _with_powers(lot, powers)) for size, rest, steps, lot in self.told]

    def up_to(self, bound, sign):
        """Return the summand, times sign, of the sums up to u / b, bound being (b, u)."""
        b, form = bound
        found = []
        for size, rest, steps, lot in self.told:
            step = (b * size, form_plus(form, -b * rest))
            found.append(told_part(self.m - 1, (*steps, step), lot_scaled(lot, sign, 1)))
        return gathered(found)


def sums_over_last(m, rows, summand):
    """Return pairs (rows, summand) over the first m - 1 letters that the sums over the last one add up to.

    Each upper bound counts where it is the least one, each lower bound where it is the greatest one.
    """
    others, lowers, uppers = split_rows(rows)
    sums = LastSums(m, summand)
    told = []
    for j, upper in enumerate(uppers):
        between = [form_between(lower, upper) for lower in lowers]
        told.append(((*others, *ways_ahead(uppers, j, -1), *between), sums.up_to(upper, 1)))
    for i, lower in enumerate(lowers):
        between = [form_between(lower, upper) for upper in uppers]
        # Numbers from l / a on are all but those up to (l - 1) / a.
        below = (lower[0], form_plus(lower[1], -1))
        told.append(((*others, *ways_ahead(lowers, i, 1), *between), sums.up_to(below, -1)))
    return told
