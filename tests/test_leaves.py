import random
import unittest
from fractions import Fraction
from itertools import product

from pointtally.errors import NotFit
from pointtally.leaves import leaf_sum, number_poly
from pointtally.series import constant_of
from tests.oracles import binom, is_poly, poly_at, random_poly
from tests.tools import leibniz

def one_over(k, d):
    return (((1, 1), (0,) * (k + d)),)


def unit_rays(rng, d):
    """Return random rays with the determinant 1 or -1."""
    rays = [[int(i == j) for j in range(d)] for i in range(d)]
    for _ in range(2 * d):
        i, j = rng.randrange(d), rng.randrange(d)
        if i != j:
            rays[i] = [a + rng.choice((1, -1)) * b for a, b in zip(rays[i], rays[j])]
    if rng.randint(0, 1):
        rays[0] = [-entry for entry in rays[0]]
    return tuple(tuple(ray) for ray in rays)


def one_ray(m, s, a, length):
    """Return the series from s ** (- a - 1) on of the sum of n ** a * z ** (n m), n up to s or from s + 1 on by the sign of m.

    Each n comes of z d/dz, which is (1 + s) d/ds at z = 1 + s, divided by m.
    """
    size, top = abs(m), m * (s if m > 0 else s + 1)
    below = [binom(0, i + 1) - binom(-size, i + 1) for i in range(length + a)]
    row = []
    for i in range(length + a):
        row.append((binom(top, i) - sum(row[j] * below[i - j] for j in range(i))) / below[0])
    lowest = -1
    for _ in range(a):
        # The coefficient at s ** e is that of e and of e + 1, each times its exponent.
        row = [Fraction(0), *row]
        lowest -= 1
        row = [(lowest + i) * row[i] + (lowest + i + 1) * row[i + 1] for i in range(len(row) - 1)]
        row = [entry / m for entry in row]
    return lowest, row


class NumberPoly(unittest.TestCase):
    def test_by_hand(self):
        e = (((3, 1), (0, 0)), ((-1, 2), (0, 1)), ((2, 1), (1, 0)))
        self.assertEqual(number_poly((), 2, e), (((1, 1), (0, 0)),))
        self.assertEqual(number_poly((1,), 2, e), (((4, 1), (0, 0)), ((-1, 2), (0, 1)), ((2, 1), (1, 0))))
        self.assertEqual(number_poly(ms=(1, 1), j=0, e=(((-1, 1), ()),)), ())
        self.assertEqual(number_poly((1, 1), 0, ()), (((1, 1), ()),))

    def test_random(self):
        rng = random.Random(531)
        for r in range(11):
            for _ in range(4):
                ms, j = tuple(rng.randint(1, 9) for _ in range(r)), rng.randint(0, 3)
                e = random_poly(rng, j, 1, 4)
                told = number_poly(ms, j, e)
                self.assertTrue(is_poly(told, j))
                q = constant_of(ms)
                for _ in range(5):
                    t = tuple(rng.randint(-9, 9) for _ in range(j))
                    self.assertEqual(poly_at(told, t), poly_at(q, (poly_at(e, t),)))


class LeafSum(unittest.TestCase):
    def test_by_hand(self):
        # From s + 1 on, down to z ** -1 ..: z ** -(s + 1) / (1 - z ** -1), as the numbers of ms = (1,) at - s - 1.
        self.assertEqual(leaf_sum(0, ((1,),), (-1,), one_over(0, 1)), (((-1, 1), (1,)),))
        # Up to s: the numbers of ms = (1,) at s.
        self.assertEqual(leaf_sum(0, ((1,),), (1,), one_over(0, 1)), (((1, 1), (0,)), ((1, 1), (1,))))
        self.assertEqual(leaf_sum(0, ((-1,),), (1,), one_over(0, 1)), (((-1, 1), (1,)),))
        self.assertEqual(leaf_sum(k=2, rays=(), lam=(), weight=(((5, 2), (1, 3)),)), (((5, 2), (1, 3)),))
        self.assertEqual(leaf_sum(1, ((1,),), (1,), ()), ())
        # The sum of n up to s, at z = 1 + s: s z ** s / (1 - 1 / z) less z ** (s - 1) / (1 - 1 / z) ** 2.
        told = leaf_sum(0, ((1,),), (1,), (((1, 1), (1,)),))
        first, second = constant_of((1,)), constant_of((1, 1))
        for s in range(-4, 5):
            self.assertEqual(poly_at(told, (s,)), s * poly_at(first, (s,)) - poly_at(second, (s - 1,)))

    def test_weight_one(self):
        rng = random.Random(591)
        for _ in range(60):
            k, d = rng.randint(0, 2), rng.randint(1, 3)
            rays, lam = unit_rays(rng, d), tuple(rng.randint(-6, 6) for _ in range(d))
            ms = [sum(a * b for a, b in zip(lam, ray)) for ray in rays]
            if 0 in ms:
                self.assertRaises(NotFit, leaf_sum, k, rays, lam, one_over(k, d))
                continue
            told = leaf_sum(k, rays, lam, one_over(k, d))
            self.assertTrue(is_poly(told, k + d))
            q = constant_of(tuple(map(abs, ms)))
            for _ in range(5):
                p, s = tuple(rng.randint(-5, 5) for _ in range(k)), tuple(rng.randint(-5, 5) for _ in range(d))
                # The greatest exponent is that of the first point of all.
                top = sum(m * (n if m > 0 else n + 1) for m, n in zip(ms, s))
                self.assertEqual(poly_at(told, (*p, *s)), poly_at(q, (top,)))

    def test_differences(self):
        rng = random.Random(592)
        for _ in range(80):
            k, d = rng.randint(0, 1), rng.randint(1, 3)
            rays, lam = unit_rays(rng, d), tuple(rng.randint(-6, 6) for _ in range(d))
            ms = [sum(a * b for a, b in zip(lam, ray)) for ray in rays]
            if 0 in ms:
                continue
            weight = random_poly(rng, k + d, rng.randint(0, 4))
            told = leaf_sum(k, rays, lam, weight)
            self.assertTrue(is_poly(told, k + d))
            p, low = tuple(rng.randint(-5, 5) for _ in range(k)), tuple(rng.randint(-4, 4) for _ in range(d))
            high = tuple(n + rng.randint(0, 3) for n in low)
            # Signed over the corners of a box of steps, the leaves add up to what is in the box.
            total = Fraction(0)
            for ends in product((0, 1), repeat=d):
                s = tuple(high[i] if end else low[i] for i, end in enumerate(ends))
                sign = 1
                for m, end in zip(ms, ends):
                    sign *= -1 if (m > 0) != bool(end) else 1
                total += sign * poly_at(told, (*p, *s))
            wanted = Fraction(0)
            for numbers in product(*(range(a + 1, b + 1) for a, b in zip(low, high))):
                x = tuple(sum(n * ray[i] for n, ray in zip(numbers, rays)) for i in range(d))
                wanted += poly_at(weight, (*p, *x))
            self.assertEqual(total, wanted)

    def test_series(self):
        rng = random.Random(593)
        for _ in range(80):
            d = rng.randint(1, 3)
            lam = tuple(rng.choice((1, 2, 3, 5, -1, -2, -4)) for _ in range(d))
            exponents = tuple(rng.randint(0, 2) for _ in range(d))
            rays = tuple(tuple(int(i == j) for i in range(d)) for j in range(d))
            told = leaf_sum(0, rays, lam, (((1, 1), exponents),))
            s = tuple(rng.randint(-4, 4) for _ in range(d))
            lowest, row = 0, [Fraction(1)]
            for m, n, a in zip(lam, s, exponents):
                low, other = one_ray(m, n, a, 12)
                row = [sum(row[j] * other[i - j] for j in range(i + 1) if j < len(row)) for i in range(12)]
                lowest += low
            self.assertEqual(poly_at(told, s), row[-lowest])

    def test_told_by_the_opposite_ray(self):
        rng = random.Random(594)
        for _ in range(40):
            weight, lam = random_poly(rng, 1, 4), (rng.choice((1, 2, 3, -1, -2)),)
            one, other = leaf_sum(0, ((1,),), lam, weight), leaf_sum(0, ((-1,),), lam, weight)
            for s in range(-3, 4):
                # n up to s is - n from - s on, and n from s + 1 on is - n up to - s - 1.
                self.assertEqual(poly_at(one, (s,)), poly_at(other, (-s - 1,)))

    def test_not_fit(self):
        self.assertRaises(NotFit, leaf_sum, 0, ((1, 0), (0, 1)), (1, 0), one_over(0, 2))
        self.assertRaises(NotFit, leaf_sum, 1, ((1, 1), (0, 1)), (1, -1), ())
        self.assertEqual(leibniz(unit_rays(random.Random(1), 3)) ** 2, 1)


if __name__ == "__main__":
    unittest.main()
