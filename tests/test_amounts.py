import random
import unittest
from fractions import Fraction

from pointtally.amounts import above_row, amount_sum, amount_times, compare_at, round_down, round_up
from pointtally.errors import NotFit
from tests.tools import at, digits, random_form

TINY = Fraction(1, 10 ** 30)


def real(amount, p):
    """Return an amount at p with tiny fractions for the small numbers."""
    form, ts, size = amount
    return (at(form, p) + sum(t * TINY ** (i + 1) for i, t in enumerate(ts))) / size


def random_amount(rng, k):
    ts = tuple(rng.choice((0, 0, 1, -1, 3, -7)) for _ in range(rng.randint(0, 4)))
    return (random_form(rng, k, 6), ts, rng.randint(1, 6))


class Compare(unittest.TestCase):
    def test_by_hand(self):
        for one, other, told in (
            (((1,), (), 2), ((1,), (), 3), 1), (((1,), (), 2), ((2,), (), 4), 0), (((-1,), (), 2), ((-1,), (), 3), -1),
            (((1,), (1,), 2), ((2,), (), 4), 1), (((1,), (0, -1), 2), ((2,), (), 4), -1), (((1,), (0, 0), 2), ((2,), (), 4), 0),
            (((1,), (1,), 2), ((2,), (2,), 4), 0), (((1,), (1, 1), 2), ((2,), (2, 1), 4), 1), (((1,), (1,), 1), ((1,), (0, 10 ** 99), 1), 1),
            (((0,), (10 ** 99,), 1), ((1,), (), 10 ** 99), -1), (((0,), (), 1), ((0,), (0, 0, 0, -1), 5), 1),
        ):
            self.assertEqual(compare_at(one, other, ()), told)
            self.assertEqual(compare_at(other, one, ()), -told)
        self.assertEqual(compare_at(one=((0, 1), (), 1), other=((3, 0), (), 1), p=(5,)), 1)
        self.assertEqual(compare_at(((0, 1), (), 1), ((3, 0), (), 1), (3,)), 0)

    def test_not_fit(self):
        for function in (lambda one, other: compare_at(one, other, (1,)), amount_sum):
            self.assertRaises(NotFit, function, ((0, 1), (), 1), ((0,), (), 1))
            self.assertRaises(NotFit, function, ((0, 1), (), 1), ((0, 1, 2), (), 1))

    def test_random(self):
        rng = random.Random(42)
        for _ in range(600):
            k = rng.randint(0, 2)
            one = random_amount(rng, k)
            other = random_amount(rng, k) if rng.randint(0, 1) else (one[0], random_amount(rng, k)[1], one[2])
            p = tuple(rng.randint(-3, 3) for _ in range(k))
            a, b = real(one, p), real(other, p)
            self.assertEqual(compare_at(one, other, p), (a > b) - (a < b))


class Rounding(unittest.TestCase):
    def test_by_hand(self):
        self.assertEqual(above_row(((5, 1), (), 3)), (4, 1))
        self.assertEqual(above_row(((5, 1), (0, 0), 3)), (4, 1))
        self.assertEqual(above_row(((5, 1), (0, 2), 3)), (5, 1))
        self.assertEqual(above_row(((5, 1), (0, -2, 3), 3)), (4, 1))
        self.assertEqual(round_up(((5, 1), (), 3)), ((3, (7, 1)), 0))
        self.assertEqual(round_up(((5, 1), (0, 1, -1), 3)), ((3, (5, 1)), 1))
        self.assertEqual(round_up(((5, 1), (-1, 1), 3)), ((3, (7, 1)), 0))
        self.assertEqual(round_down(((5, 1), (), 3)), ((3, (5, 1)), 0))
        self.assertEqual(round_down(((5, 1), (0, -1), 3)), ((3, (4, 1)), 0))
        self.assertEqual(round_down(((5, 1), (1, -1), 3)), ((3, (5, 1)), 0))
        for function in (above_row, round_up, round_down):
            function(amount=((0,), (), 1))

    def test_random(self):
        rng = random.Random(43)
        for _ in range(600):
            k = rng.randint(0, 2)
            amount = random_amount(rng, k)
            p = tuple(rng.randint(-5, 5) for _ in range(k))
            value = real(amount, p)
            self.assertEqual(at(above_row(amount), p) >= 0, value > 0)
            (size, form), j = round_up(amount)
            self.assertEqual(size, amount[2])
            self.assertEqual(at(form, p) // size + j, -(-value // 1))
            (size, form), j = round_down(amount)
            self.assertEqual((size, j), (amount[2], 0))
            self.assertEqual(at(form, p) // size, value // 1)


class Sums(unittest.TestCase):
    def test_by_hand(self):
        self.assertEqual(amount_sum(((1, 2), (1,), 4), ((3, 0), (0, 5), 6)), ((9, 6), (3, 10), 12))
        self.assertEqual(amount_sum(((1,), (), 2), ((1,), (), 2)), ((2,), (), 2))
        self.assertEqual(amount_sum(one=((0,), (0,), 2), other=((0,), (), 1)), ((0,), (0,), 2))
        self.assertEqual(amount_times(((1, 2), (3,), 4), -2), ((-2, -4), (-6,), 4))
        self.assertEqual(amount_times(((1, 2), (3,), 4), 0), ((0, 0), (0,), 4))
        self.assertEqual(amount_times(amount=((1,), (), 4), n=4), ((4,), (), 4))

    def test_random(self):
        rng = random.Random(44)
        for _ in range(400):
            k = rng.randint(0, 2)
            one, other = random_amount(rng, k), random_amount(rng, k)
            p = tuple(digits(rng, 40) for _ in range(k))
            told = amount_sum(one, other)
            self.assertEqual(real(told, p), real(one, p) + real(other, p))
            self.assertEqual(len(told[1]), max(len(one[1]), len(other[1])))
            self.assertEqual(told[2] % one[2] + told[2] % other[2], 0)
            n = rng.randint(-9, 9)
            told = amount_times(one, n)
            self.assertEqual(real(told, p), n * real(one, p))
            self.assertEqual((len(told[1]), told[2]), (len(one[1]), one[2]))

    def test_great(self):
        far = 10 ** 199
        told = amount_sum(((far, -far), (far,), far), ((1, far), (), far - 1))
        self.assertEqual(told, ((far * (far - 1) + far, far ** 2 - far * (far - 1)), (far * (far - 1),), far * (far - 1)))
