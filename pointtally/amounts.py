"""Amounts: forms that are moved by less than any fraction."""

from math import lcm

from pointtally.errors import NotFit
from pointtally.forms import form_plus, form_sum, form_times, form_value
from pointtally.fractions import sign_of


def _sign_of_ts(ts):
    """Return the sign of the first entry that is not 0, 0 if there is none."""
    for entry in ts:
        if entry != 0:
            return sign_of(entry)
    return 0


def _need_fit(one, other):
    """Raise NotFit unless the forms of both amounts are over as many letters."""
    if len(one[0]) != len(other[0]):
        raise NotFit()


def _ts_sum(one, other):
    """Return the sums entry by entry, as many as the longer one has."""
    length = max(len(one), len(other))
    wide = one + (0,) * (length - len(one))
    return form_sum(wide, other + (0,) * (length - len(other)))


def compare_at(one, other, p):
    """Return -1, 0 or 1, as one is less than, equal to or greater than other at p."""
    _need_fit(one, other)
    form, ts, _ = amount_sum(one, amount_times(other, -1))
    told = sign_of(form_value(form, p))
    return told if told != 0 else _sign_of_ts(ts)


def above_row(amount):
    """Return the form that is from 0 on just at the whole p at which the amount is above 0."""
    form, ts, _ = amount
    return form if _sign_of_ts(ts) > 0 else form_plus(form, -1)


def round_up(amount):
    """Return ((D, f), j): the least integer not below is f divided by D, rounded down, plus j."""
    form, ts, size = amount
    if _sign_of_ts(ts) > 0:
        return ((size, form), 1)
    return ((size, form_plus(form, size - 1)), 0)


def round_down(amount):
    """Return ((D, f), 0): the greatest integer not above is f divided by D, rounded down."""
    form, ts, size = amount
    if _sign_of_ts(ts) < 0:
        return ((size, form_plus(form, -1)), 0)
    return ((size, form), 0)


def amount_sum(one, other):
    """Return the sum of two amounts."""
    _need_fit(one, other)
    size = lcm(one[2], other[2])
    n, n_other = size // one[2], size // other[2]
    form = form_sum(form_times(one[0], n), form_times(other[0], n_other))
    return (form, _ts_sum(form_times(one[1], n), form_times(other[1], n_other)), size)


def amount_times(amount, n):
    """Return the amount n times."""
    form, ts, size = amount
    return (form_times(form, n), form_times(ts, n), size)
