"""What a cone of the index 1 adds: the coefficient at s ** 0 of its series at z = 1 + s."""

from pointtally.errors import NotFit
from pointtally.forms import form_plus, form_sum, form_times, letter_form, product_sum
from pointtally.polys import (
    form_lot, letter_exponents, lot_of, lot_scaled, lot_times, lots_sum, number_lot, poly_of, put_form, put_lots,
    short_lot,
)
from pointtally.series import binom_numbers, constant_of


def number_poly(ms, j, e):
    """Return the POLY over j letters that comes of constant_of(ms) with e, a POLY over them, for its letter."""
    terms, by = lot_of(e)
    form = (terms.get((0,) * j, 0), *[terms.get(letter_exponents(i, j), 0) for i in range(j)])
    return poly_of(_number_lot(ms, (form, by), {}))


def _number_lot(ms, e, known):
    """Return the lot that comes of constant_of(ms) with e, a form and what it is divided by, for its letter.

    known keeps what was worked out.
    """
    form, by = e
    return put_form(_number_terms(ms, known), form, by, known)


def _number_terms(ms, known):
    """Return the lot of constant_of(ms); known keeps it."""
    key = tuple(sorted(ms))
    if key not in known:
        known[key] = lot_of(constant_of(key))
    return known[key]


def products_with(lam, rays):
    """Return the products of a direction with rays; raise NotFit if one is 0."""
    products = [product_sum(lam, ray) for ray in rays]
    if 0 in products:
        raise NotFit()
    return products


def start_form(k, products):
    """Return the form over k + d letters whose value is the exponent of the first point: that nearest to all ends."""
    # From s + 1 on the first n is s + 1, up to s it is s.
    return (sum([m for m in products if m < 0]), *[0] * k, *products)


def _opened(letters, rays, products, weight, j):
    """Return the lot over j + d letters: weight at the x that lies r_i steps behind the first one along each ray i.

    letters are as leaf_lot tells them; the r_i are the last letters.
    """
    d = len(rays)
    k = len(letters) - d
    lots = [form_lot((*form, *[0] * d), by) for form, by in letters[:k]]
    for place in range(d):
        total, steps = (0,) * (j + 1), []
        for ray, m, (form, _) in zip(rays, products, letters[k:]):
            entry = ray[place]
            total = form_sum(total, form_times(form, entry))
            if m < 0:
                total = form_plus(total, entry)
            steps.append(entry if m < 0 else -entry)
        lots.append(form_lot((*total, *steps)))
    return put_lots(weight, lots, j + d)


def _by_binoms(opened, count):
    """Return for each tuple i the lot of what stands at the product of all binom(r_j, i_j); r are the last letters."""
    terms, by = opened
    known, found = {}, {}
    for exponents, number in terms.items():
        front, back = exponents[:len(exponents) - count], exponents[len(exponents) - count:]
        if back not in known:
            known[back] = _binom_ways(back)
        for told, factor in known[back]:
            lot = found.setdefault(told, {})
            lot[front] = lot.get(front, 0) + number * factor
    return {told: (lot, by) for told, lot in found.items()}


def _binom_ways(exponents):
    """Return pairs (i, number): with the numbers, the products of all binom(r_j, i_j) add up to a product of powers."""
    ways = [((), 1)]
    for exponent in exponents:
        numbers = binom_numbers(exponent)
        ways = [((*told, i), old * factor) for told, old in ways for i, factor in enumerate(numbers) if factor != 0]
    return ways


def leaf_lot(letters, rays, products, weight, e, known):
    """Return the lot over some letters that a cone of the index 1 adds.

    letters are pairs of a form over these and what it is divided by, that stand for the parameters of weight and
    for s_1 .. s_d; e is such a pair that tells the exponent of the first point; weight is a lot over the
    parameters and x, or None for 1.
    """
    if weight is None:
        return _number_lot([abs(m) for m in products], e, known)
    form, by = e
    j = len(form) - 1
    lines = []
    for told, part in _by_binoms(_opened(letters, rays, products, weight, j), len(rays)).items():
        ms, back = [], 0
        for i, m in zip(told, products):
            ms += [abs(m)] * (i + 1)
            back += i * abs(m)
        _add_multiples(lines, part, _number_row(ms, back, known))
    total = number_lot(0, 1, j)
    for line in lines[::-1]:
        total = short_lot(lots_sum([lot_times(total, form_lot(form, by)), *line]))
    return total


def _number_row(ms, back, known):
    """Return (numbers, size): constant_of(ms) at e - back, by powers of e, each number divided by size."""
    terms, size = _number_terms(ms, known)
    numbers = []
    for exponent in range(len(ms), -1, -1):
        numbers = [low - back * high for low, high in zip([0, *numbers], [*numbers, 0])]
        numbers[0] += terms.get((exponent,), 0)
    return (numbers, size)


def _add_multiples(lines, part, row):
    """Append to the lots of each power of e what a lot times a row of numbers adds there."""
    numbers, size = row
    for i, number in enumerate(numbers):
        if i == len(lines):
            lines.append([])
        if number != 0:
            lines[i].append(lot_scaled(part, number, size))


def leaf_sum(k, rays, lam, weight):
    """Return the POLY over the parameters and s_1 .. s_d that a cone of the index 1 adds."""
    products = products_with(lam, rays)
    wide = k + len(rays)
    letters = [(letter_form(i, wide), 1) for i in range(wide)]
    lot = None if weight is None else lot_of(weight)
    return poly_of(leaf_lot(letters, rays, products, lot, (start_form(k, products), 1), {}))
