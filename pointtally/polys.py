"""Polynomials over some letters: sums, products, and other polynomials put in for letters.

Inside, a LOT is a pair (terms, by): terms a dict of integers by exponents, each of which stands divided by by.
"""

from math import comb, lcm

from pointtally.forms import are_counts, common_part
from pointtally.fractions import fraction, is_fraction


def is_poly(j, value):
    """Tell of any value whether it is a POLY over j letters."""
    if not isinstance(value, tuple):
        return False
    last = None
    for pair in value:
        if not isinstance(pair, tuple) or len(pair) != 2 or not is_fraction(pair[0]) or not are_counts(pair[1], j):
            return False
        if pair[0][0] == 0 or (last is not None and pair[1] <= last):
            return False
        last = pair[1]
    return True


def lot_of(poly):
    """Return the lot of a POLY."""
    by = 1
    for (_, b), _ in poly:
        by = lcm(by, b)
    return ({exponents: a * (by // b) for (a, b), exponents in poly}, by)


def poly_of(lot):
    """Return the POLY of a lot."""
    terms, by = lot
    found = []
    for exponents in sorted(terms):
        if terms[exponents] != 0:
            found.append((fraction(terms[exponents], by), exponents))
    return tuple(found)


def number_lot(number, by, j):
    """Return the lot over j letters that is number / by everywhere."""
    return ({(0,) * j: number}, by)


def letter_exponents(i, j):
    """Return the exponents of letter number i of j letters."""
    return tuple([int(place == i) for place in range(j)])


def form_lot(form, by=1):
    """Return the lot of a form, divided by a number."""
    j = len(form) - 1
    terms = {}
    if form[0] != 0:
        terms[(0,) * j] = form[0]
    for i, entry in enumerate(form[1:]):
        if entry != 0:
            terms[letter_exponents(i, j)] = entry
    return (terms, by)


def lot_sum(one, other):
    """Return the sum of two lots."""
    (terms, by), (others, other_by) = one, other
    size = lcm(by, other_by)
    n, n_other = size // by, size // other_by
    total = {exponents: n * number for exponents, number in terms.items()}
    for exponents, number in others.items():
        total[exponents] = total.get(exponents, 0) + n_other * number
    return (total, size)


def lots_sum(lots):
    """Return the sum of some lots."""
    size = 1
    for _, by in lots:
        size = lcm(size, by)
    total = {}
    for terms, by in lots:
        for exponents, number in terms.items():
            total[exponents] = total.get(exponents, 0) + size // by * number
    return (total, size)


def lot_scaled(lot, number, by):
    """Return the lot times number / by, by from 1 on."""
    terms, old = lot
    return ({exponents: number * entry for exponents, entry in terms.items()}, old * by)


def lot_times(one, other):
    """Return the product of two lots."""
    (terms, by), (others, other_by) = one, other
    total = {}
    for exponents, number in terms.items():
        if number != 0:
            for more, factor in others.items():
                at = tuple([a + b for a, b in zip(exponents, more)])
                total[at] = total.get(at, 0) + number * factor
    return (total, by * other_by)


def short_lot(lot):
    """Return the lot without terms of 0 and without a common part."""
    terms, by = lot
    part = common_part([by, *list(terms.values())])
    return ({exponents: number // part for exponents, number in terms.items() if number != 0}, by // part)


def _packed(exponents, width):
    """Return one integer that has exponents, each in so many bits: those of a product add up."""
    code = 0
    for exponent in exponents[::-1]:
        code = (code << width) + exponent
    return code


def _unpacked(code, width, j):
    """Return the j exponents that an integer has."""
    mask, told = (1 << width) - 1, []
    for _ in range(j):
        told.append(code & mask)
        code = code >> width
    return tuple(told)


def _packed_terms(terms, width):
    """Return the terms other than 0 by their packed exponents."""
    return {_packed(exponents, width): number for exponents, number in terms.items() if number != 0}


def _degree(lot):
    """Return the greatest sum of exponents in a lot."""
    return max([0, *[sum(exponents) for exponents in lot[0]]])


def _packed_product(one, other):
    """Return the product of two dicts of numbers by packed exponents."""
    found = {}
    for code, number in one.items():
        for more, factor in other.items():
            at = code + more
            found[at] = found.get(at, 0) + number * factor
    return found


def _powers_of_one(terms, by, top):
    """Return pairs (packed exponents, number) of the powers up to top of at most one term, by ** top times each."""
    found = list(terms.items())
    code, number = found[0] if found else (0, 0)
    told, power, scale = [], 1, 1
    for exponent in range(top + 1):
        told.append((code * exponent, power))
        power = power * number
    for exponent in range(top, -1, -1):
        at, power = told[exponent]
        told[exponent] = (at, power * scale)
        scale = scale * by
    return told


def _without_last(groups, terms, by, top):
    """Return dicts of terms by keys less their last exponent, terms, divided by by, being put in for its letter.

    All of it is by ** top times as great.
    """
    parts = {}
    for key, group in groups.items():
        parts.setdefault(key[:-1], {})[key[-1]] = group
    found = {}
    for key, own in parts.items():
        total, scale = {}, 1
        for exponent in range(top, -1, -1):
            total = _packed_product(total, terms)
            group = own.get(exponent, {})
            for code, number in group.items():
                total[code] = total.get(code, 0) + number * scale
            scale = scale * by
        found[key] = total
    return found


def _without_singles(items, powers, wide):
    """Return dicts of terms by the exponents of wide letters; powers are those put in for other letters, by places."""
    groups = {}
    for exponents, number in items:
        code = 0
        for i, own in powers.items():
            more, factor = own[exponents[i]]
            code, number = code + more, number * factor
        group = groups.setdefault(tuple([exponents[i] for i in wide]), {})
        group[code] = group.get(code, 0) + number
    return groups


def put_lots(lot, lots, j):
    """Return the lot over j letters that comes of a lot if lots over j letters stand for its letters."""
    terms, by = lot
    items = [(exponents, number) for exponents, number in terms.items() if number != 0]
    tops = [max([0, *[exponents[i] for exponents, _ in items]]) for i in range(len(lots))]
    used = [i for i, top in enumerate(tops) if top > 0]
    width = sum([tops[i] * _degree(lots[i]) for i in used]).bit_length()
    led = {i: _packed_terms(lots[i][0], width) for i in used}
    wide = [i for i in used if len(led[i]) > 1]
    powers = {i: _powers_of_one(led[i], lots[i][1], tops[i]) for i in used if len(led[i]) <= 1}
    groups = _without_singles(items, powers, wide)
    for i in wide[::-1]:
        groups = _without_last(groups, led[i], lots[i][1], tops[i])
    for i in used:
        for _ in range(tops[i]):
            by = by * lots[i][1]
    told = groups.get((), {})
    return short_lot(({_unpacked(code, width, j): number for code, number in told.items()}, by))


def _ways_to_take(own, j, most):
    """Return by their sum up to most: triples (exponents of own letters, their multinomial, exponents of all j)."""
    told = [[((), 1)]] + [[] for _ in range(most)]
    for _ in own:
        wider = [[] for _ in range(most + 1)]
        for size, ways in enumerate(told):
            for more in range(most + 1 - size):
                factor = comb(size + more, more)
                wider[size + more] += [((*exponents, more), number * factor) for exponents, number in ways]
        told = wider
    return [[(exponents, number, _spread(exponents, own, j)) for exponents, number in ways] for ways in told]


def _spread(exponents, own, j):
    """Return the exponents of j letters, of which those in own places have the given ones and the others 0."""
    wide = [0] * j
    for place, exponent in zip(own, exponents):
        wide[place] = exponent
    return tuple(wide)


def put_form(lot, form, by, known):
    """Return the lot that comes of a lot over one letter with a form, divided by a number, for this letter.

    known keeps what hangs on the sizes alone.
    """
    terms, size = lot
    top = max([0, *[exponents[0] for exponents in list(terms)]])
    numbers = [terms.get((exponent,), 0) for exponent in range(top + 1)]
    for exponent in range(top, -1, -1):
        for other in range(exponent):
            numbers[other] = numbers[other] * by
        size = size * by if exponent > 0 else size
    own = tuple([i for i, entry in enumerate(form[1:]) if entry != 0])
    key = ("ways", own, len(form) - 1, top)
    if key not in known:
        known[key] = _ways_to_take(own, len(form) - 1, top)
    found = {}
    for taken, ways in enumerate(known[key]):
        # What is left of the letter's powers if so many factors are letters of the form.
        rest = 0
        for exponent in range(top, taken - 1, -1):
            rest = rest * form[0] + comb(exponent, taken) * numbers[exponent]
        if rest != 0:
            _add_products(found, ways, [form[i + 1] for i in own], rest, taken)
    return short_lot((found, size))


def _add_products(found, ways, entries, rest, taken):
    """Put into found, for each way to take so many, the number times rest times the entries' powers."""
    powers = [[1] for _ in entries]
    for line, entry in zip(powers, entries):
        for _ in range(taken):
            line.append(line[-1] * entry)
    for exponents, number, wide in ways:
        number = number * rest
        for line, exponent in zip(powers, exponents):
            number = number * line[exponent]
        found[wide] = number


def poly_value(poly, numbers):
    """Return the value of a POLY at whole numbers, as a fraction."""
    terms, by = lot_of(poly)
    total = 0
    for exponents, number in terms.items():
        for letter, exponent in zip(numbers, exponents):
            for _ in range(exponent):
                number = number * letter
        total += number
    return fraction(total, by)
