"""Tallies: terms with conditions and polynomials in roundings, told for all parameters."""

from pointtally.errors import NotTally
from pointtally.forms import form_value, is_form, led_form
from pointtally.fractions import plus
from pointtally.polys import is_poly, lot_of, lot_scaled, lot_times, poly_of, poly_value
from pointtally.steppolys import beside, is_step, step_values
from pointtally.terms import tidied_terms


def _is_term(value, k):
    """Tell of any value whether it is a term over k parameters."""
    if not isinstance(value, tuple) or len(value) != 4:
        return False
    rows, gates, steps, poly = value
    if not isinstance(rows, tuple) or not isinstance(gates, tuple) or not isinstance(steps, tuple):
        return False
    if not all([is_form(row, k) for row in rows]) or not all([is_step(k, gate, 2) for gate in gates]):
        return False
    return all([is_step(k, step) for step in steps]) and is_poly(len(steps), poly)


def tally_breach(value, k):
    """Return None if any value is a tally, -1 for what is no tuple, else the index of its first entry that is none."""
    if not isinstance(value, tuple):
        return -1
    for i, entry in enumerate(value):
        if not _is_term(entry, k):
            return i
    return None


def need_tally(value, k):
    """Raise NotTally unless value is a tally over k parameters."""
    place = tally_breach(value, k)
    if place is not None:
        raise NotTally(place)


def _holds(rows, gates, p):
    """Tell whether all rows and gates hold at p."""
    for row in rows:
        if form_value(row, p) < 0:
            return False
    for n, form in gates:
        if form_value(form, p) % n != 0:
            return False
    return True


def value(tally, p):
    """Return the value of a tally at p as a fraction."""
    total = (0, 1)
    known = {}
    for rows, gates, steps, poly in tally:
        # Many terms stand under the same conditions.
        key = (rows, gates)
        if key not in known:
            known[key] = _holds(rows, gates, p)
        if known[key]:
            total = plus(total, poly_value(poly, step_values(steps, p)))
    return total


def added(one, other):
    """Return a tally of the sums."""
    return (*one, *other)


def scaled(tally, fraction):
    """Return a tally of the products with a fraction."""
    a, b = fraction
    return tuple([(*term[:3], poly_of(lot_scaled(lot_of(term[3]), a, b))) for term in tally])


def less(one, other):
    """Return a tally of the differences."""
    return (*one, *scaled(other, (-1, 1)))


def times(one, other):
    """Return a tally of the products."""
    told = []
    for rows, gates, steps, poly in one:
        for more_rows, more_gates, more_steps, more_poly in other:
            side, lot, more = beside((steps, poly), (more_steps, more_poly))
            told.append(((*rows, *more_rows), (*gates, *more_gates), side, poly_of(lot_times(lot, more))))
    return tuple(told)


def constant(fraction):
    """Return the tally of a fraction everywhere, for any number of parameters."""
    return (((), (), (), ((fraction, ()),) if fraction[0] != 0 else ()),)


def kept(tally, rows, gates):
    """Return a tally of the value where all the rows and gates hold, and of 0 elsewhere."""
    return tuple([((*own, *rows), (*own_gates, *gates), steps, poly) for own, own_gates, steps, poly in tally])


def _led_pairs(pairs, forms, n):
    """Return pairs of a number and a form with forms over n letters put in."""
    return tuple([(size, led_form(form, forms, n)) for size, form in pairs])


def put_in_tally(tally, forms, n):
    """Return the tally over n parameters with the values at the values of forms."""
    told = []
    for rows, gates, steps, poly in tally:
        own = tuple([led_form(row, forms, n) for row in rows])
        told.append((own, _led_pairs(gates, forms, n), _led_pairs(steps, forms, n), poly))
    return tuple(told)


def tidied(tally):
    """Return a tally with the same values and at most as many terms."""
    return tidied_terms(tally)
