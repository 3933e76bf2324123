"""Slow and plain ways, written apart from the program, to tell what pieces, tallies and polynomials are."""

from fractions import Fraction
from itertools import product


def value_of(form, t):
    """Return the value of a form."""
    return form[0] + sum(a * b for a, b in zip(form[1:], t, strict=True))


def no_fractions(rows):
    """Tell whether no fractions keep all rows: letter after letter is taken out by adding rows up."""
    rows = [tuple(Fraction(entry) for entry in row) for row in rows]
    while rows and len(rows[0]) > 1:
        lows = [row for row in rows if row[-1] > 0]
        highs = [row for row in rows if row[-1] < 0]
        made = {row[:-1] for row in rows if row[-1] == 0}
        for low in lows:
            for high in highs:
                row = [a * -high[-1] + b * low[-1] for a, b in zip(low[:-1], high[:-1])]
                size = max([abs(entry) for entry in row]) or 1
                made.add(tuple(entry / size for entry in row))
        if any(not any(row[1:]) and row[0] < 0 for row in made):
            return True
        # Of rows with one head the least counts; those that always hold do not.
        least = {}
        for row in made:
            size = max([abs(entry) for entry in row[1:]] or [0])
            if size:
                head = tuple(entry / size for entry in row[1:])
                least[head] = min(row[0] / size, least.get(head, row[0] / size))
        rows = [(first, *head) for head, first in least.items()]
    return any(row[0] < 0 for row in rows)


def place(grid, t):
    """Return the y of a point of a grid, None if t is none."""
    y = []
    for i, row in enumerate(grid[0]):
        rest = t[i] - grid[1][i] - sum(a * b for a, b in zip(row, y))
        if rest % row[i]:
            return None
        y.append(rest // row[i])
    return tuple(y)


def has(piece, t):
    """Tell whether t is a point of a piece."""
    y = place(piece[1], t)
    return y is not None and all(value_of(row, y) >= 0 for row in piece[0][2])


def points_in(pieces, low, high):
    """Return the set of the points of some pieces in a box."""
    m = len(pieces[0][1][1]) if pieces else 0
    return {t for t in product(range(low, high + 1), repeat=m) if any(has(piece, t) for piece in pieces)}


def nearness(t):
    """Return what orders points by how near their entries are to 0, the first ones first; of two the one below 0."""
    return tuple((abs(entry), entry) for entry in t)


def poly_at(poly, t):
    """Return the value of a POLY as a Fraction."""
    total = Fraction(0)
    for (a, b), exponents in poly:
        part = Fraction(a, b)
        for number, exponent in zip(t, exponents, strict=True):
            part *= Fraction(number) ** exponent
        total += part
    return total


def steps_at(steps, p):
    return [value_of(form, p) // n for n, form in steps]


def step_poly_at(sp, p):
    """Return the value of a step polynomial as a Fraction."""
    return poly_at(sp[1], steps_at(sp[0], p))


def tally_at(tally, p):
    """Return the value of a tally as a Fraction."""
    total = Fraction(0)
    for rows, gates, steps, poly in tally:
        if all(value_of(row, p) >= 0 for row in rows) and all(value_of(form, p) % n == 0 for n, form in gates):
            total += poly_at(poly, steps_at(steps, p))
    return total


def is_poly(value, j):
    """Tell whether a value is written as a POLY."""
    last = None
    for (a, b), exponents in value:
        if Fraction(a, b) == 0 or (Fraction(a, b).numerator, Fraction(a, b).denominator) != (a, b):
            return False
        if len(exponents) != j or min(exponents, default=0) < 0 or (last is not None and last >= exponents):
            return False
        last = exponents
    return type(value) is tuple


def binom(e, i):
    """Return e (e - 1) .. (e - i + 1) divided by 1 * 2 * .. * i."""
    total = Fraction(1)
    for n in range(i):
        total = total * (e - n) / (n + 1)
    return total


def random_poly(rng, j, degree, many=3, high=4):
    """Return a random POLY over j letters of at most this degree."""
    told = {}
    for _ in range(rng.randint(0, many)):
        left = degree
        exponents = []
        for _ in range(j):
            exponents.append(rng.randint(0, left))
            left -= exponents[-1]
        part = Fraction(rng.randint(-high, high), rng.randint(1, 3))
        if part:
            told[tuple(exponents)] = part
    return tuple(((part.numerator, part.denominator), exponents) for exponents, part in sorted(told.items()))


def pair(number):
    """Return a Fraction as a pair."""
    number = Fraction(number)
    return (number.numerator, number.denominator)
