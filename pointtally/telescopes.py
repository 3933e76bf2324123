"""Sums of powers between bounds, and polynomials over other letters."""

from math import comb

from pointtally.forms import form_plus
from pointtally.grids import grid_forms
from pointtally.polys import form_lot, lot_of, lot_scaled, lot_times, lots_sum, poly_of, poly_value, put_form, put_lots


def power_lots(n):
    """Return the lots over one letter of S(0), .., S(n), the sums of powers up to the letter."""
    told = []
    for i in range(n + 1):
        # x ** (i + 1) less (x - 1) ** (i + 1) holds x ** i as often as i + 1 tells, and lower powers beside it.
        lots = [({(i + 1,): 1}, i + 1)]
        for j in range(i):
            sign = 1 if (i - j) % 2 == 1 else -1
            lots.append(lot_scaled(told[j], sign * comb(i + 1, j), i + 1))
        told.append(lot_of(poly_of(lots_sum(lots))))
    return told


def power_sums(n):
    """Return the POLY S with S(0) = 0 and S(x) - S(x - 1) = x ** n."""
    return poly_of(power_lots(n)[n])


def parts_by_last(lot):
    """Return by their exponent of the last letter the lots over the other letters that stand beside its powers."""
    terms, by = lot
    parts = {}
    for exponents, number in terms.items():
        parts.setdefault(exponents[-1], {})[exponents[:-1]] = number
    return {exponent: (parts[exponent], by) for exponent in sorted(parts)}


def sum_between(poly, low, high):
    """Return the POLY of the sums over the last letter from the form low to the form high."""
    parts = parts_by_last(lot_of(poly))
    powers = power_lots(max([0, *list(parts)]))
    known, lots = {}, []
    for exponent, part in parts.items():
        upper = put_form(powers[exponent], high, 1, known)
        lower = put_form(powers[exponent], form_plus(low, -1), 1, known)
        lots.append(lot_times(part, lots_sum([upper, lot_scaled(lower, -1, 1)])))
    return poly_of(lots_sum(lots))


def moved_poly(poly, grid):
    """Return the POLY over the letters of a grid with the values of poly at its points."""
    forms = grid_forms(grid)
    return poly_of(put_lots(lot_of(poly), [form_lot(form) for form in forms], len(forms)))


def poly_at(poly, t):
    """Return the value of a POLY at t as a fraction."""
    return poly_value(poly, t)
