import random
import unittest
from fractions import Fraction

from pointtally.grids import point_at, whole_grid
from pointtally.telescopes import moved_poly, poly_at, power_sums, sum_between
from tests import oracles
from tests.oracles import is_poly, random_poly, value_of
from tests.tools import random_form


class PowerSums(unittest.TestCase):
    def test_by_hand(self):
        self.assertEqual(power_sums(0), (((1, 1), (1,)),))
        self.assertEqual(power_sums(1), (((1, 2), (1,)), ((1, 2), (2,))))
        self.assertEqual(power_sums(n=2), (((1, 6), (1,)), ((1, 2), (2,)), ((1, 3), (3,))))
        self.assertEqual(power_sums(10)[0], ((5, 66), (1,)))

    def test_sums(self):
        for n in range(11):
            told = power_sums(n)
            self.assertTrue(is_poly(told, 1))
            self.assertEqual(told[-1][1], (n + 1,))
            self.assertEqual(oracles.poly_at(told, (0,)), 0)
            for x in (*range(-20, 21), 10 ** 40, -10 ** 40):
                self.assertEqual(oracles.poly_at(told, (x,)) - oracles.poly_at(told, (x - 1,)), x ** n)
            self.assertEqual(oracles.poly_at(told, (30,)), sum(x ** n for x in range(1, 31)))


class SumBetween(unittest.TestCase):
    def test_by_hand(self):
        # The sum of x from 3 to n, and of 1 from n to m.
        self.assertEqual(sum_between((((1, 1), (0, 1)),), (3, 0), (0, 1)), (((-3, 1), (0,)), ((1, 2), (1,)), ((1, 2), (2,))))
        self.assertEqual(sum_between((((1, 1), (0, 0, 0)),), (0, 1, 0), (0, 0, 1)), (((1, 1), (0, 0)), ((1, 1), (0, 1)), ((-1, 1), (1, 0))))
        self.assertEqual(sum_between((((2, 3), (2,)),), (1,), (3,)), (((28, 3), ()),))
        self.assertEqual(sum_between((), (1, 2), (3, 4)), ())

    def test_high_below_low(self):
        square = (((1, 1), (2,)),)
        self.assertEqual(sum_between(square, (5,), (4,)), ())
        # Farther below it is what the polynomials tell: the sum from high + 1 to low - 1, taken away.
        self.assertEqual(sum_between(poly=square, low=(5,), high=(2,)), (((-25, 1), ()),))
        self.assertEqual(sum_between((((1, 1), (0,)),), (0,), (-10 ** 40,)), (((1 - 10 ** 40, 1), ()),))

    def test_against_adding_up(self):
        rng = random.Random(681)
        for _ in range(150):
            m = rng.randint(0, 3)
            poly = random_poly(rng, m + 1, rng.randint(0, 6))
            low, high = random_form(rng, m, 3), random_form(rng, m, 3)
            told = sum_between(poly, low, high)
            self.assertTrue(is_poly(told, m))
            for _ in range(5):
                t = tuple(rng.randint(-4, 4) for _ in range(m))
                first, last = value_of(low, t), value_of(high, t)
                if last >= first - 1:
                    wanted = sum((oracles.poly_at(poly, (*t, x)) for x in range(first, last + 1)), Fraction(0))
                else:
                    wanted = -sum((oracles.poly_at(poly, (*t, x)) for x in range(last + 1, first)), Fraction(0))
                self.assertEqual(oracles.poly_at(told, t), wanted)

    def test_many_letters(self):
        poly = (((1, 1), (0,) * 8 + (10,)), ((3, 2), (1,) * 8 + (1,)))
        low, high = (2,) * 9, (3, 3, 3, *[2] * 6)
        told = sum_between(poly, low, high)
        for t in ((0,) * 8, (1, 1, 0, 2, -1, 0, 1, 0)):
            wanted = sum(oracles.poly_at(poly, (*t, x)) for x in range(value_of(low, t), value_of(high, t) + 1))
            self.assertEqual(Fraction(*poly_at(told, t)), wanted)


class Moved(unittest.TestCase):
    def test_by_hand(self):
        self.assertEqual(moved_poly((((1, 1), (2,)),), (((3,),), (1,))), (((1, 1), (0,)), ((6, 1), (1,)), ((9, 1), (2,))))
        self.assertEqual(moved_poly((), (((3,),), (1,))), ())
        self.assertEqual(moved_poly(poly=(((5, 2), ()),), grid=((), ())), (((5, 2), ()),))

    def test_values(self):
        rng = random.Random(682)
        for _ in range(100):
            m = rng.randint(0, 3)
            sizes = [rng.randint(1, 4) for _ in range(m)]
            table = tuple(tuple([rng.randint(0, sizes[i] - 1) for _ in range(i)] + [sizes[i]] + [0] * (m - i - 1)) for i in range(m))
            grid = (table, tuple(rng.randint(0, size - 1) for size in sizes))
            poly = random_poly(rng, m, 5)
            told = moved_poly(poly, grid)
            self.assertTrue(is_poly(told, m))
            for _ in range(4):
                y = tuple(rng.randint(-9, 9) for _ in range(m))
                self.assertEqual(oracles.poly_at(told, y), oracles.poly_at(poly, point_at(grid, y)))
            self.assertEqual(moved_poly(poly, whole_grid(m)), poly)


class PolyAt(unittest.TestCase):
    def test_values(self):
        self.assertEqual(poly_at((((1, 2), (0, 1)), ((1, 3), (2, 0))), (3, 5)), (11, 2))
        self.assertEqual(poly_at((), (3, 5)), (0, 1))
        self.assertEqual(poly_at(poly=(((-3, 4), ()),), t=()), (-3, 4))
        self.assertEqual(poly_at((((1, 1), (2,)), ((-1, 1), (3,))), (-10 ** 40,)), (10 ** 80 + 10 ** 120, 1))
        rng = random.Random(683)
        for _ in range(50):
            poly, t = random_poly(rng, 3, 6), tuple(rng.randint(-9, 9) for _ in range(3))
            self.assertEqual(Fraction(*poly_at(poly, t)), oracles.poly_at(poly, t))


if __name__ == "__main__":
    unittest.main()
