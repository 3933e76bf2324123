"""Series at one, and polynomials written in binomials."""

from math import comb, factorial

from pointtally.fractions import fraction, plus, times
from pointtally.polys import lots_sum, poly_of


def _products(one, other, length):
    """Return the first entries of the product of two series."""
    total = [0] * length
    for i, entry in enumerate(one[:length]):
        for j, factor in enumerate(other[:length - i]):
            total[i + j] += entry * factor
    return total


def at_one(ms):
    """Return the fractions c_0, .., c_r of s ** r divided by the product of all 1 - z ** -m, at z = 1 + s."""
    length = len(ms) + 1
    # s / (1 - z ** -m) is z ** m divided by what (z ** m - 1) / s comes to.
    above, below = [comb(sum(ms), i) for i in range(length)], [1] + [0] * len(ms)
    for m in ms:
        below = _products(below, [comb(m, i + 1) for i in range(length)], length)
    return tuple(_divided(above, below))


def _divided(above, below):
    """Return the fractions of the series above divided by the series below, as many as there are entries."""
    lead = below[0]
    # Entry i of the ratio is found[i] divided by lead ** (i + 1).
    found, powers = [], [1]
    for i, entry in enumerate(above):
        total = entry * powers[i]
        for back in range(1, i + 1):
            total -= below[back] * found[i - back] * powers[back - 1]
        found.append(total)
        powers.append(powers[-1] * lead)
    return [fraction(entry, powers[i + 1]) for i, entry in enumerate(found)]


def constant_of(ms):
    """Return the POLY over one letter e: the coefficient at s ** 0 of z ** e divided by the product."""
    return of_binoms(at_one(ms)[::-1])


def _falling_powers(count):
    """Return for each i below count the coefficients of e (e - 1) .. (e - i + 1), by powers of e."""
    rows = [[1]]
    for i in range(count - 1):
        row = rows[-1]
        rows.append([a - i * b for a, b in zip([0, *row], [*row, 0])])
    return rows


def binom_numbers(exponent):
    """Return the numbers a_0, a_1, .. by which a power e ** exponent is the sum of a_i * binom(e, i)."""
    # The numbers are differences: of the powers of 0, 1, 2, .., then of these differences, and so on.
    row = []
    for number in range(exponent + 1):
        power = 1
        for _ in range(exponent):
            power = power * number
        row.append(power)
    told = []
    while row:
        told.append(row[0])
        row = [b - a for a, b in zip(row, row[1:])]
    return told


def binoms(poly):
    """Return the fractions a_0, a_1, .. by which a POLY over e is the sum of a_i * binom(e, i)."""
    if len(poly) == 0:
        return ()
    told = [(0, 1)] * (poly[-1][1][0] + 1)
    for part, (exponent,) in poly:
        for i, number in enumerate(binom_numbers(exponent)):
            told[i] = plus(told[i], times(part, (number, 1)))
    return tuple(told)


def of_binoms(row):
    """Return the POLY over e that is the sum of row[i] * binom(e, i)."""
    lots = []
    for i, (falling, (a, b)) in enumerate(zip(_falling_powers(len(row)), row)):
        lots.append(({(exponent,): a * number for exponent, number in enumerate(falling)}, b * factorial(i)))
    return poly_of(lots_sum(lots))
