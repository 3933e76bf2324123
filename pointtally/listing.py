"""Formulas tried at one place, and all points of a box."""

from pointtally.errors import TooMany
from pointtally.forms import form_value

MOST_LISTED = 10000


def holds_within(formula, t, reach):
    """Tell whether a formula holds at t if letters under "some" are tried from -reach to reach."""
    word = formula[0]
    if word == "row":
        return form_value(formula[1], t) >= 0
    if word == "divides":
        return form_value(formula[2], t) % formula[1] == 0
    if word == "not":
        return not holds_within(formula[1], t, reach)
    if word == "some":
        for number in range(-reach, reach + 1):
            if holds_within(formula[1], (*t, number), reach):
                return True
        return False
    for inner in formula[1:]:
        if holds_within(inner, t, reach) != (word == "and"):
            return word == "or"
    return word == "and"


def _with_letter(formula, place, number):
    """Return the formula with a number put in for the letter whose entry stands at a place of each form."""
    word = formula[0]
    if word in ("row", "divides"):
        form = formula[-1]
        first = form[0] + number * form[place]
        return (*formula[:-1], (first, *form[1:place], *form[place + 1:]))
    return (word, *[_with_letter(inner, place, number) for inner in formula[1:]])


def _row_bits(form, low, width):
    """Return the bits of the numbers from low on, as many as width, at which a row over one letter holds."""
    first, step = form[0] + form[1] * low, form[1]
    whole = (1 << width) - 1
    if step == 0:
        return whole if first >= 0 else 0
    if step > 0:
        # The row holds from the first i on at which first + step * i is not below 0.
        start = min(max(0, -(first // step)), width)
        return (whole >> start) << start
    count = min(max(0, first // -step + 1), width)
    return (1 << count) - 1


def _divides_bits(n, form, low, width):
    """Return the bits of the numbers from low on, as many as width, at which a divisibility holds."""
    pattern = 0
    for i in range(n):
        if (form[0] + form[1] * (low + i)) % n == 0:
            pattern |= 1 << i
    known = n
    while known < width:
        pattern |= pattern << known
        known = 2 * known
    return pattern & ((1 << width) - 1)


def _bits(formula, low, width, reach):
    """Return the bits of the numbers from low on, as many as width, at which a formula over one letter holds."""
    word = formula[0]
    whole = (1 << width) - 1
    if word == "row":
        return _row_bits(formula[1], low, width)
    if word == "divides":
        return _divides_bits(formula[1], formula[2], low, width)
    if word == "not":
        return whole ^ _bits(formula[1], low, width, reach)
    found = whole if word == "and" else 0
    if word == "some":
        for number in range(-reach, reach + 1):
            if found != whole:
                found = found | _bits(_with_letter(formula[1], 2, number), low, width, reach)
        return found
    for inner in formula[1:]:
        bits = _bits(inner, low, width, reach)
        found = found & bits if word == "and" else found | bits
    return found


def _places_of(bits):
    """Return the ascending places of the bits that are set; more than are listed are not looked for."""
    text = f"{bits:b}"[::-1]
    places = []
    place = text.find("1")
    while place >= 0 and len(places) <= MOST_LISTED:
        places.append(place)
        place = text.find("1", place + 1)
    return places


def _gather(formula, front, left, bounds, found):
    """Append to found the points behind front, left letters being open, that the bounds (low, width, reach) let."""
    low, width, reach = bounds
    if left == 1:
        for place in _places_of(_bits(formula, low, width, reach)):
            found.append((*front, low + place))
        if len(found) > MOST_LISTED:
            raise TooMany(MOST_LISTED)
        return
    for number in range(low, low + width):
        _gather(_with_letter(formula, 1, number), (*front, number), left - 1, bounds, found)


def listed(k, d, formula, p, low, high, reach):
    """Return the ascending tuple of the points from low to high at p, "some" being tried up to reach."""
    if d == 0:
        return ((),) if holds_within(formula, p, reach) else ()
    fixed = formula
    for number in p:
        fixed = _with_letter(fixed, 1, number)
    found = []
    _gather(fixed, (), d, (low, high - low + 1, reach), found)
    return tuple(found)
