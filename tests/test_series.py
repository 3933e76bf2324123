import random
import unittest
from fractions import Fraction
from math import comb

from pointtally.series import at_one, binoms, constant_of, of_binoms
from tests.oracles import binom, is_poly, pair, poly_at, random_poly


class Series(unittest.TestCase):
    def test_by_hand(self):
        self.assertEqual(at_one(()), ((1, 1),))
        # s / (1 - 1 / z) is z.
        self.assertEqual(at_one((1,)), ((1, 1), (1, 1)))
        # s / (1 - z ** -2) is z z / (z + 1): (1 + 2 s + s s) / (2 + s).
        self.assertEqual(at_one(ms=(2,)), ((1, 2), (3, 4)))
        self.assertEqual(constant_of(()), (((1, 1), (0,)),))
        self.assertEqual(constant_of((1,)), (((1, 1), (0,)), ((1, 1), (1,))))
        self.assertEqual(constant_of(ms=(2,)), (((3, 4), (0,)), ((1, 2), (1,))))
        self.assertEqual(constant_of((1, 1)), (((1, 1), (0,)), ((3, 2), (1,)), ((1, 2), (2,))))

    def test_multiplied_out(self):
        rng = random.Random(531)
        for r in list(range(11)) * 3:
            ms = tuple(rng.choice((1, 1, 2, 3, rng.randint(1, 60), 10 ** 6)) for _ in range(r))
            told = at_one(ms)
            self.assertEqual(len(told), r + 1)
            # The series times the product of (z ** m - 1) / s is z to the power of the sum of all m.
            series = [Fraction(*c) for c in told]
            for m in ms:
                factor = [comb(m, i + 1) for i in range(r + 1)]
                series = [sum(series[i] * factor[n - i] for i in range(n + 1)) for n in range(r + 1)]
            self.assertEqual(series, [comb(sum(ms), i) for i in range(r + 1)])
            self.assertEqual(told, tuple(pair(Fraction(*c)) for c in told))

    def test_constant_of(self):
        rng = random.Random(532)
        for r in list(range(11)) * 2:
            ms = tuple(rng.randint(1, 7) for _ in range(r))
            poly, row = constant_of(ms), at_one(ms)
            self.assertTrue(is_poly(poly, 1))
            self.assertEqual(poly[-1][1], (r,))
            for e in (-11, -1, 0, 1, 5, 40):
                self.assertEqual(poly_at(poly, (e,)), sum(binom(e, i) * Fraction(*row[r - i]) for i in range(r + 1)))
                for j, m in enumerate(ms):
                    rest = constant_of(ms[:j] + ms[j + 1:])
                    self.assertEqual(poly_at(poly, (e,)) - poly_at(poly, (e - m,)), poly_at(rest, (e,)))

    def test_sequence_does_not_matter(self):
        self.assertEqual(at_one((3, 1, 2)), at_one((1, 2, 3)))
        self.assertEqual(constant_of((3, 1, 3)), constant_of((3, 3, 1)))


class Binoms(unittest.TestCase):
    def test_by_hand(self):
        self.assertEqual(binoms(()), ())
        self.assertEqual(of_binoms(()), ())
        self.assertEqual(of_binoms(((0, 1), (0, 1))), ())
        self.assertEqual(binoms((((7, 3), (0,)),)), ((7, 3),))
        # e e is binom(e, 1) + 2 binom(e, 2).
        self.assertEqual(binoms(poly=(((1, 1), (2,)),)), ((0, 1), (1, 1), (2, 1)))
        self.assertEqual(of_binoms(row=((0, 1), (1, 1), (2, 1))), (((1, 1), (2,)),))
        self.assertEqual(of_binoms(((0, 1), (0, 1), (1, 1), (0, 1))), (((-1, 2), (1,)), ((1, 2), (2,))))

    def test_random(self):
        rng = random.Random(521)
        for _ in range(150):
            poly = random_poly(rng, 1, 10, 5)
            row = binoms(poly)
            self.assertTrue(not row or row[-1] != (0, 1))
            self.assertEqual(of_binoms(row), poly)
            self.assertEqual(of_binoms((*row, (0, 1))), poly)
            for e in (-7, -1, 0, 3, 12):
                self.assertEqual(poly_at(poly, (e,)), sum(Fraction(*a) * binom(e, i) for i, a in enumerate(row)))
            self.assertEqual(row, tuple(pair(Fraction(*a)) for a in row))


if __name__ == "__main__":
    unittest.main()
