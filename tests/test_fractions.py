import random
import unittest
from fractions import Fraction

from pointtally.errors import ByNought
from pointtally.fractions import compare, floor_of, fraction, is_fraction, minus, over, plus, times
from tests.tools import JUNK, deep_nest, digits


def pair(value):
    return (value.numerator, value.denominator)


class Made(unittest.TestCase):
    def test_by_hand(self):
        for a, b, told in ((6, 4, (3, 2)), (-6, 4, (-3, 2)), (6, -4, (-3, 2)), (-6, -4, (3, 2)), (0, 5, (0, 1)),
                           (0, -5, (0, 1)), (7, 1, (7, 1)), (7, 7, (1, 1)), (1, -1, (-1, 1))):
            self.assertEqual(fraction(a, b), told)

    def test_by_nought(self):
        for a in (0, 1, -5, 10 ** 200):
            self.assertRaises(ByNought, fraction, a, 0)
            self.assertRaises(ByNought, over, (a, 1), (0, 1))

    def test_keywords(self):
        self.assertEqual(fraction(a=1, b=2), (1, 2))
        for function in (plus, minus, times, over, compare):
            function(f=(1, 2), g=(1, 3))
        self.assertEqual(floor_of(f=(1, 2)), 0)
        self.assertIs(is_fraction(value=(1, 2)), True)

    def test_random(self):
        rng = random.Random(15)
        for many in (1, 2, 200):
            for _ in range(200):
                a, c = digits(rng, many), digits(rng, many)
                b, d = digits(rng, many) or 1, digits(rng, many) or 1
                f, g = Fraction(a, b), Fraction(c, d)
                self.assertEqual(fraction(a, b), pair(f))
                self.assertEqual(plus(pair(f), pair(g)), pair(f + g))
                self.assertEqual(minus(pair(f), pair(g)), pair(f - g))
                self.assertEqual(times(pair(f), pair(g)), pair(f * g))
                if g != 0:
                    self.assertEqual(over(pair(f), pair(g)), pair(f / g))
                self.assertEqual(compare(pair(f), pair(g)), (f > g) - (f < g))
                self.assertEqual(compare(pair(f), pair(f)), 0)
                self.assertEqual(floor_of(pair(f)), f.numerator // f.denominator)

    def test_rounding_down_below_0(self):
        self.assertEqual([floor_of(f) for f in ((-1, 2), (-3, 2), (-2, 1), (1, 2), (0, 1), (-1, 3))], [-1, -2, -2, 0, 0, -1])


class IsFraction(unittest.TestCase):
    def test_values(self):
        for value in ((0, 1), (1, 1), (-1, 1), (2, 3), (-2, 3), (10 ** 400, 1), (1, 10 ** 400)):
            self.assertIs(is_fraction(value), True)
        for value in ((0, 2), (2, 2), (2, 4), (-2, 4), (1, 0), (0, 0), (1, -1), (0, -1), (3, -2), [1, 2], (1,), (1, 2, 3),
                      (True, 1), (1, True), (1.0, 2), (1, None), ((1,), 2), 1, "12", Fraction(1, 2), deep_nest(200)):
            self.assertIs(is_fraction(value), False)
        for value in JUNK:
            self.assertIs(is_fraction(value), False)
