import random
import unittest
from fractions import Fraction
from itertools import product
from math import lcm

from pointtally.periods import alike_steps, least_period
from pointtally.steppolys import normal, on_class, plus
from tests.oracles import step_poly_at
from tests.test_steppolys import ONE, random_step_poly

HALF, OTHER, WHOLE = (((2, (0, 1)),), (((1, 1), (1,)),)), (((2, (1, 1)),), (((1, 1), (1,)),)), (((1, (0, 1)),), (((1, 1), (1,)),))


def fit(values):
    """Tell whether numbers at 0, 1, 2, .. are those of a polynomial of a degree below half as many."""
    values = list(values)
    for _ in range(len(values) // 2):
        values = [b - a for a, b in zip(values, values[1:])]
    return not any(values)


def repeats(k, sp, size, degree):
    """Tell whether on each class by size the values are those of one polynomial in p, letter by letter."""
    width = 2 * degree + 4
    for rest in product(range(size), repeat=k):
        for i in range(k):
            for front in product((0, 1, 2), repeat=k - 1):
                line = []
                for y in range(width):
                    at = (*front[:i], y, *front[i:])
                    line.append(step_poly_at(sp, tuple(size * a + b for a, b in zip(at, rest))))
                if not fit(line):
                    return False
    return True


class Alike(unittest.TestCase):
    def test_by_hand(self):
        self.assertIsNone(alike_steps(1, plus(1, HALF, OTHER), WHOLE))
        self.assertEqual(alike_steps(1, HALF, OTHER), (-1,))
        self.assertEqual(alike_steps(k=1, one=HALF, other=WHOLE), (1,))
        self.assertIsNone(alike_steps(0, ((), ()), (((3, (2,)),), (((1, 1), (1,)),))))
        self.assertEqual(alike_steps(0, ((), ()), ((), ONE)), ())
        self.assertEqual(alike_steps(2, ((), ()), ((), ONE)), (0, 0))
        # p by 7 and p + 1 by 7 part where p leaves 6, at -1 first; p + 3 and p + 4 where p leaves 3.
        self.assertEqual(alike_steps(1, (((7, (0, 1)),), HALF[1]), (((7, (1, 1)),), HALF[1])), (-1,))
        self.assertEqual(alike_steps(1, (((7, (3, 1)),), HALF[1]), (((7, (4, 1)),), HALF[1])), (3,))
        # p q less its value has no unlike values where either is 0.
        self.assertEqual(alike_steps(2, (((1, (0, 0, 1)), (1, (0, 1, 0))), (((1, 1), (1, 1)),)), ((), ())), (-1, -1))

    def test_zero_on_many(self):
        # p (p - 1) (p + 1) (p - 2) is 0 from -1 to 2, so that they part at -2.
        poly = (((2, 1), (1,)), ((-1, 1), (2,)), ((-2, 1), (3,)), ((1, 1), (4,)))
        self.assertEqual(alike_steps(1, (WHOLE[0], poly), ((), ())), (-2,))

    def test_random(self):
        rng = random.Random(581)
        alike = 0
        for _ in range(150):
            k = rng.randint(0, 2)
            one, other = random_step_poly(rng, k, 2, 2, 3), random_step_poly(rng, k, 2, 2, 3)
            if rng.randint(0, 2) == 0:
                other = normal(k, one)
            told = alike_steps(k, one, other)
            wanted = None
            for p in sorted(product(range(-7, 8), repeat=k), key=lambda p: (sum(map(abs, p)), p)):
                if step_poly_at(one, p) != step_poly_at(other, p):
                    wanted = p
                    break
            if wanted is None:
                alike += told is None
                self.assertTrue(told is None or step_poly_at(one, told) != step_poly_at(other, told))
            else:
                self.assertEqual(told, wanted)
        self.assertGreater(alike, 30)

    def test_great(self):
        n = 24999
        one, other = (((n, (0, 1)),), HALF[1]), (((n, (12500, 1)),), HALF[1])
        self.assertEqual(alike_steps(1, one, other), (-1,))
        # The steps of p + 2 and of p part at -1 and -2; at -1 that of p + 1 makes up for it.
        one, other = (((n, (0, 1)), (n, (2, 1))), (((1, 1), (0, 1)), ((1, 1), (1, 0)))), (((n, (0, 1)), (n, (1, 1))), (((1, 1), (0, 1)), ((1, 1), (1, 0))))
        self.assertEqual(alike_steps(1, one, other), (-2,))
        one = (((15, (0, 1, 4, 7)), (15, (3, 1, 1, 1))), (((1, 1), (0, 1)), ((2, 1), (1, 0))))
        self.assertIsNone(alike_steps(3, one, normal(3, one)))


class LeastPeriod(unittest.TestCase):
    def test_by_hand(self):
        self.assertEqual(least_period(1, HALF), 2)
        self.assertEqual(least_period(1, plus(1, HALF, OTHER)), 1)
        self.assertEqual(least_period(k=1, sp=WHOLE), 1)
        self.assertEqual(least_period(0, ((), ONE)), 1)
        self.assertEqual(least_period(2, ((), ())), 1)
        self.assertEqual(least_period(2, (((12, (0, 3, 4)),), HALF[1])), 12)
        # What a step by 4 leaves, taken modulo 2.
        self.assertEqual(least_period(1, (((2, (0, 1)), (4, (0, 1))), (((-2, 1), (0, 1)), ((1, 1), (1, 0))))), 4)
        self.assertEqual(least_period(1, (((20000, (7, 3)),), (((1, 1), (2,)),))), 20000)
        self.assertEqual(least_period(2, (((141, (7, 3, 2)),), (((1, 1), (2,)),))), 141)

    def test_random(self):
        rng = random.Random(582)
        seen = set()
        for _ in range(50):
            k = rng.choice((1, 1, 2))
            sp = random_step_poly(rng, k, 2, 2, 6 if k == 1 else 3)
            if rng.randint(0, 1):
                other = tuple((n, (form[0] + rng.randint(0, n), *form[1:])) for n, form in sp[0])
                sp = plus(k, sp, (other, tuple(((-a, b), exponents) for (a, b), exponents in sp[1])))
            told = least_period(k, sp)
            seen.add(told)
            whole = 1
            for n, _ in normal(k, sp)[0]:
                whole = lcm(whole, n)
            degree = max([sum(exponents) for _, exponents in normal(k, sp)[1]], default=0)
            self.assertEqual(whole % told, 0)
            for size in range(1, min(whole, 12) + 1):
                self.assertEqual(repeats(k, sp, size, degree), size % told == 0, (sp, size))
        self.assertGreater(len(seen), 3)

    def test_one_polynomial_on_each_class(self):
        sp = (((4, (0, 1)), (6, (0, 1))), (((1, 1), (1, 1)),))
        size = least_period(1, sp)
        self.assertEqual(size, 12)
        for rest in range(size):
            poly = on_class(1, sp, size, (rest,))
            self.assertEqual(sum(Fraction(*part) for part, _ in poly), step_poly_at(sp, (size + rest,)))


if __name__ == "__main__":
    unittest.main()
