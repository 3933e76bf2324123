"""Fractions: pairs of integers without a common part."""

from math import gcd

from pointtally.errors import ByNought
from pointtally.forms import is_number


def fraction(a, b):
    """Return the fraction that is a / b."""
    if b == 0:
        raise ByNought()
    part = gcd(a, b) if b > 0 else -gcd(a, b)
    return (a // part, b // part)


def plus(f, g):
    """Return the sum of two fractions."""
    return fraction(f[0] * g[1] + g[0] * f[1], f[1] * g[1])


def minus(f, g):
    """Return f less g."""
    return fraction(f[0] * g[1] - g[0] * f[1], f[1] * g[1])


def times(f, g):
    """Return the product of two fractions."""
    return fraction(f[0] * g[0], f[1] * g[1])


def over(f, g):
    """Return f divided by g."""
    return fraction(f[0] * g[1], f[1] * g[0])


def sign_of(number):
    """Return -1, 0 or 1, as an integer is below, at or above 0."""
    return int(number > 0) - int(number < 0)


def compare(f, g):
    """Return -1, 0 or 1, as f is less than, equal to or greater than g."""
    return sign_of(f[0] * g[1] - g[0] * f[1])


def floor_of(f):
    """Return the greatest integer that is not above f."""
    return f[0] // f[1]


def is_fraction(value):
    """Tell of any value whether it is a fraction."""
    if not isinstance(value, tuple) or len(value) != 2:
        return False
    a, b = value
    return is_number(a) and is_number(b) and b > 0 and gcd(a, b) == 1
