"""Step polynomials: polynomials in forms that are divided and rounded down."""

from pointtally.errors import NotFit
from pointtally.forms import common_part, form_value, is_form, is_number, led_form, letter_form
from pointtally.polys import (
    form_lot, is_poly, lot_of, lot_scaled, lot_sum, lot_times, number_lot, poly_of, poly_value, put_lots,
)


def is_plain(j, value):
    """Tell of any value whether it is a POLY over j letters."""
    return is_poly(j, value)


def is_step(k, value, low=1):
    """Tell of any value whether it is a pair of a number from low on and a form over k parameters."""
    if not isinstance(value, tuple) or len(value) != 2:
        return False
    return is_number(value[0]) and value[0] >= low and is_form(value[1], k)


def is_step_poly(k, value):
    """Tell of any value whether it is a step polynomial over k parameters."""
    if not isinstance(value, tuple) or len(value) != 2 or not isinstance(value[0], tuple):
        return False
    if not all([is_step(k, step) for step in value[0]]):
        return False
    return is_poly(len(value[0]), value[1])


def step_values(steps, p):
    """Return the values of steps at p."""
    return tuple([form_value(form, p) // n for n, form in steps])


def value_at(k, sp, p):
    """Return the value at p as a fraction."""
    steps, poly = sp
    return poly_value(poly, step_values(steps, p))


def normal_parts(step):
    """Return (form, rest): a step is the form plus the rest, a normal step from n = 2 on, None if nothing is left."""
    n, form = step
    part = common_part([n, *form[1:]])
    n = n // part
    form = (form[0] // part, *[entry // part for entry in form[1:]])
    whole = tuple([entry // n for entry in form])
    if n == 1:
        return (whole, None)
    return (whole, (n, tuple([entry % n for entry in form])))


def normal_letters(k, steps):
    """Return (letters, forms): normal steps, ascending, and what each of the steps is as a form over these."""
    told = [normal_parts(step) for step in steps]
    found = {}
    for whole, rest in told:
        if rest is not None:
            found[rest] = True
        for i in range(k):
            if whole[i + 1] != 0:
                found[(1, letter_form(i, k))] = True
    letters = sorted(found)
    places = {letter: i + 1 for i, letter in enumerate(letters)}
    forms = []
    for whole, rest in told:
        form = [whole[0]] + [0] * len(letters)
        for i in range(k):
            if whole[i + 1] != 0:
                form[places[(1, letter_form(i, k))]] += whole[i + 1]
        if rest is not None:
            form[places[rest]] += 1
        forms.append(tuple(form))
    return (tuple(letters), tuple(forms))


def without_idle(letters, lot):
    """Return the step polynomial of letters and a lot, with the letters that stand in it alone."""
    poly = poly_of(lot)
    used = [i for i in range(len(letters)) if any([exponents[i] for _, exponents in poly])]
    short = [(part, tuple([exponents[i] for i in used])) for part, exponents in poly]
    return (tuple([letters[i] for i in used]), tuple(short))


def normal_of(k, steps, lot):
    """Return the normal step polynomial of steps and a lot over them."""
    letters, forms = normal_letters(k, steps)
    return without_idle(letters, put_lots(lot, [form_lot(form) for form in forms], len(letters)))


def normal(k, sp):
    """Return the normal step polynomial with the same values."""
    return normal_of(k, sp[0], lot_of(sp[1]))


def beside(one, other):
    """Return (steps, lot, lot): the steps of two step polynomials side by side, and both polynomials over these."""
    (steps, poly), (more, other_poly) = one, other
    terms, by = lot_of(poly)
    others, other_by = lot_of(other_poly)
    front, back = (0,) * len(steps), (0,) * len(more)
    wide = {(*exponents, *back): number for exponents, number in terms.items()}
    other_wide = {(*front, *exponents): number for exponents, number in others.items()}
    return ((*steps, *more), (wide, by), (other_wide, other_by))


def plus(k, one, other):
    """Return the sum of two step polynomials."""
    steps, lot, other_lot = beside(normal(k, one), normal(k, other))
    return normal_of(k, steps, lot_sum(lot, other_lot))


def times(k, one, other):
    """Return the product of two step polynomials."""
    steps, lot, other_lot = beside(normal(k, one), normal(k, other))
    return normal_of(k, steps, lot_times(lot, other_lot))


def scaled(k, sp, fraction):
    """Return the product of a step polynomial and a fraction."""
    steps, poly = normal(k, sp)
    return normal_of(k, steps, lot_scaled(lot_of(poly), *fraction))


def raised(k, sp, e):
    """Return the power of a step polynomial."""
    steps, poly = normal(k, sp)
    total = number_lot(1, 1, len(steps))
    for _ in range(e):
        total = lot_times(total, lot_of(poly))
    return normal_of(k, steps, total)


def put_in(k, j, sp, forms):
    """Return the step polynomial over j parameters that comes of forms for the k parameters."""
    if len(forms) != k:
        raise NotFit()
    steps, poly = sp
    return normal(j, (tuple([(n, led_form(form, forms, j)) for n, form in steps]), poly))


def on_class(k, sp, N, rest):
    """Return the POLY over y with the values at N * y + rest."""
    steps, poly = normal(k, sp)
    lots = []
    for n, form in steps:
        if N % n != 0:
            raise NotFit()
        front = form_value(form, rest) // n
        lots.append(form_lot((front, *[N // n * entry for entry in form[1:]])))
    return poly_of(put_lots(lot_of(poly), lots, k))
