"""Terms and numbers of blocks on grids: what their corners add up to at one, as polynomials in roundings.

An ITEM is (block, grid, weight): a block over the letters of a grid, and a lot over these letters, or None for 1.
All items of a sum share one direction, so that what goes on without end in several of them ends in the sum.
"""

from pointtally.cornersums import block_corners
from pointtally.directions import is_direction
from pointtally.forms import form_sum, form_times, form_value, led_form, letter_form, product_sum
from pointtally.fractions import fraction, plus
from pointtally.frames import Frame
from pointtally.leaves import leaf_lot, start_form
from pointtally.matrices import times_column
from pointtally.polys import lot_of, lot_scaled
from pointtally.series import constant_of
from pointtally.steppolys import normal_letters, without_idle
from pointtally.terms import led_by_places

GROWS = 3


def mixed_direction(d, vectors):
    """Return a direction of some vectors, with entries that are small and look mixed."""
    state, bound = 1, GROWS
    while True:
        lam = []
        for _ in range(d):
            state = (state * 1103515245 + 12345) % 2147483648
            lam.append(state // 65536 % (2 * bound + 1) - bound)
        if is_direction(tuple(lam), d, vectors):
            return tuple(lam)
        bound += 1


def _inner_table(grid, k):
    """Return the part of a grid's table that leads from the unknowns' places to the unknowns."""
    return tuple([row[k:] for row in grid[0][k:]])


def _cones_of(items):
    """Return pairs (cones of each item, direction of all their rays, as unknowns of points)."""
    known, vectors, told = {}, {}, []
    for block, grid, _ in items:
        k = block[0]
        cones = block_corners(block, known)
        table = _inner_table(grid, k)
        for _, _, rays, _ in cones:
            for ray in rays:
                vectors[times_column(table, ray)] = True
        told.append(cones)
    d = items[0][0][1] if items else 0
    return (told, mixed_direction(d, list(vectors)))


def _led_direction(lam, grid, k):
    """Return (direction for the unknowns' places, form over the parameters' places): what lam tells of a point."""
    table, s = grid
    entries = tuple([product_sum(lam, [row[j] for row in table[k:]]) for j in range(len(s))])
    return (entries[k:], (product_sum(lam, s[k:]), *entries[:k]))


def _turned_sign(number, products):
    """Return the number, times -1 for each ray that goes uphill."""
    for m in products:
        if m > 0:
            number = -number
    return number


def _term(frame, cone, way, weight, known):
    """Return the term of a cone; way is the direction as _led_direction tells it."""
    k = frame.k
    conditions, number, rays, steps = cone
    lam, offset = way
    products = [product_sum(lam, ray) for ray in rays]
    own = [(1, letter_form(i, k)) for i in range(k)] if weight is not None or any(offset[1:]) else []
    letters, forms = normal_letters(k, (*own, *frame.led_steps(steps)))
    j = len(letters)
    start, front, behind = start_form(0, products), forms[:len(own)], forms[len(own):]
    by, led = led_by_places(offset, frame.places, k)
    e = form_sum(form_times(led_form(start, behind, j), by), led_form(led, front, j))
    told = [(led_form(form, front, j), own_by) for own_by, form in frame.places] if weight is not None else []
    told += [(form, 1) for form in behind]
    lot = leaf_lot(told, rays, products, weight, (e, by), known)
    poly = without_idle(letters, lot_scaled(lot, _turned_sign(number, products), 1))
    return (frame.led_rows(conditions), frame.gates, *poly)


def terms_of(k, items):
    """Return terms whose values are the sum of the weights of all points that the items count."""
    cones, lam = _cones_of(items)
    known, told = {}, []
    for (block, grid, weight), own in zip(items, cones):
        frame = Frame(k, grid)
        way = _led_direction(lam, grid, k)
        for cone in own:
            term = _term(frame, cone, way, weight, known)
            if term[3]:
                told.append(term)
    return tuple(told)


def number_of(items):
    """Return how many points items without parameters count."""
    cones, lam = _cones_of(items)
    known = {}
    total = (0, 1)
    for (_, grid, _), own in zip(items, cones):
        inner, offset = _led_direction(lam, grid, 0)
        for _, number, rays, steps in own:
            products = [product_sum(inner, ray) for ray in rays]
            e = form_value(start_form(0, products), [form[0] // n for n, form in steps]) + offset[0]
            part, by = _number_at(tuple(sorted([abs(m) for m in products])), e, known)
            total = plus(total, fraction(_turned_sign(number, products) * part, by))
    return total[0]


def _number_at(ms, e, known):
    """Return the value of constant_of(ms) at e as a pair (a, b)."""
    if ms not in known:
        terms, by = lot_of(constant_of(ms))
        known[ms] = ([terms.get((exponent,), 0) for exponent in range(len(ms), -1, -1)], by)
    numbers, by = known[ms]
    total = 0
    for number in numbers:
        total = total * e + number
    return (total, by)
