"""Forms: whole coefficients of some letters behind a constant."""

from math import gcd

from pointtally.errors import NotForm

MOST_LETTERS = 9


def is_number(value):
    """Tell of any value whether it is an integer; True and False are none."""
    return isinstance(value, int) and not isinstance(value, bool)


def is_between(value, low, high):
    """Tell of any value whether it is an integer from low to high."""
    return is_number(value) and low <= value <= high


def are_numbers(value, count):
    """Tell of any value whether it is a tuple of count integers."""
    if not isinstance(value, tuple) or len(value) != count:
        return False
    return all([is_number(entry) for entry in value])


def are_counts(value, count):
    """Tell of any value whether it is a tuple of count integers from 0 on."""
    return are_numbers(value, count) and all([entry >= 0 for entry in value])


def word_of(value, count):
    """Return the first entry of any value that is a tuple of count entries and begins with a string, else ""."""
    if isinstance(value, tuple) and len(value) == count and isinstance(value[0], str):
        return value[0]
    return ""


def is_form(value, m):
    """Tell of any value whether it is a form over m letters."""
    return are_numbers(value, m + 1)


def need_form(value, m):
    """Raise NotForm unless value is a form over m letters."""
    if not isinstance(value, tuple) or len(value) != m + 1:
        raise NotForm(-1)
    for place, entry in enumerate(value):
        if not is_number(entry):
            raise NotForm(place)


def product_sum(one, other):
    """Return the sum of the products, entry by entry."""
    return sum([a * b for a, b in zip(one, other)])


def form_value(form, t):
    """Return the value of a form at t."""
    return form[0] + product_sum(form[1:], t)


def form_sum(one, other):
    """Return the form whose values are the sums."""
    return tuple([a + b for a, b in zip(one, other)])


def form_times(form, n):
    """Return the form whose values are n times as great."""
    return tuple([n * entry for entry in form])


def form_plus(form, n):
    """Return the form whose values are greater by n."""
    return (form[0] + n, *form[1:])


def letter_form(i, n):
    """Return the form over n letters that is letter number i."""
    return tuple([int(j == i + 1) for j in range(n + 1)])


def led_form(form, forms, n):
    """Return the form over n letters that form becomes with forms for its letters."""
    total = [form[0]] + [0] * n
    for factor, inner in zip(form[1:], forms):
        if factor != 0:
            total = [a + factor * b for a, b in zip(total, inner)]
    return tuple(total)


def put_in(form, forms, n):
    """Return the form over n letters that form becomes with forms for its letters."""
    return led_form(form, forms, n)


def common_part(numbers):
    """Return the greatest common part of some integers, 0 if all are 0."""
    part = 0
    for number in numbers:
        part = gcd(part, number)
        if part == 1:
            return 1
    return part


def lowered(form):
    """Return the form over the same letters without a common part of its coefficients."""
    part = common_part(form[1:])
    if part == 0:
        return form
    return (form[0] // part, *[entry // part for entry in form[1:]])
