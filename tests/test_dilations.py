import random
import unittest
from fractions import Fraction
from itertools import product

from pointtally.dilations import dilation, dilation_value, inner_dilation
from pointtally.errors import NotBounded
from tests.oracles import value_of

FAR = 10 ** 40


def box(d, low, high):
    """Return rows that hold all letters from low to high."""
    rows = []
    for j in range(d):
        unit = [int(i == j) for i in range(d)]
        rows += [(-low, *unit), (high, *[-entry for entry in unit])]
    return rows


def listed(d, rows, t, strict, reach):
    """Count by trying all places up to a reach."""
    total = 0
    for x in product(range(-reach, reach + 1), repeat=d):
        total += all(value_of((t * row[0], *row[1:]), x) >= int(strict) for row in rows)
    return total


def random_body(rng, d):
    rows = []
    for j in range(d):
        for sign in (1, -1):
            rows.append((rng.randint(-1, 2), *[sign * rng.randint(1, 3) * (i == j) for i in range(d)]))
    return rows + [tuple(rng.randint(-3, 3) for _ in range(d + 1)) for _ in range(rng.randint(0, 2))]


def is_told(told):
    """Tell whether a value is written as a told pair with no tuple that ends with 0."""
    period, polys = told
    if type(told) is not tuple or type(polys) is not tuple or len(polys) != period or period < 1:
        return False
    for poly in polys:
        for a, b in poly:
            if (Fraction(a, b).numerator, Fraction(a, b).denominator) != (a, b):
                return False
        if type(poly) is not tuple or (poly and poly[-1] == (0, 1)):
            return False
    return True


def repeats(told, size):
    period, polys = told
    return all(polys[i] == polys[i % size] for i in range(period))


class Dilation(unittest.TestCase):
    def test_by_hand(self):
        self.assertEqual(dilation(1, ((0, 1), (1, -1))), (1, (((1, 1), (1, 1)),)))
        self.assertEqual(dilation(d=1, rows=((0, 1), (1, -2))), (2, (((1, 1), (1, 2)), ((1, 2), (1, 2)))))
        self.assertEqual(inner_dilation(1, ((0, 1), (1, -2))), (2, (((-1, 1), (1, 2)), ((-1, 2), (1, 2)))))
        self.assertEqual(inner_dilation(d=1, rows=((0, 1), (1, -1))), (1, (((-1, 1), (1, 1)),)))
        # Twice a half and a half: the vertices are no whole points, and still one polynomial tells all.
        self.assertEqual(dilation(2, ((0, 1, 0), (0, 0, 1), (1, -1, -1))), (1, (((1, 1), (3, 2), (1, 2)),)))

    def test_no_letters(self):
        for rows, outer, inner in (((), 1, 1), (((1,),), 1, 1), (((0,), (3,)), 1, 0), (((2,), (-1,)), 0, 0)):
            told = (1, (((1, 1),),)), (1, ((),))
            self.assertEqual(dilation(0, rows), told[1 - outer])
            self.assertEqual(inner_dilation(0, rows), told[1 - inner])

    def test_no_points(self):
        # Nothing at any t; something at even t alone; nothing inside where all is flat.
        self.assertEqual(dilation(1, ((-1, 1), (0, -1))), (1, ((),)))
        self.assertEqual(inner_dilation(1, ((-1, 1), (0, -1))), (1, ((),)))
        self.assertEqual(dilation(1, ((-1, 2), (1, -2))), (2, (((1, 1),), ())))
        self.assertEqual(inner_dilation(1, ((-1, 2), (1, -2))), (1, ((),)))
        flat = ((0, 1, 0), (1, -1, 0), (0, 0, 1), (0, 0, -1))
        self.assertEqual(dilation(2, flat), (1, (((1, 1), (1, 1)),)))
        self.assertEqual(inner_dilation(2, flat), (1, ((),)))
        thin = ((-1, 0, 3), (1, 0, -3), (0, 1, 0), (1, -2, 0))
        told = dilation(2, thin)
        self.assertEqual(told[0], 6)
        self.assertEqual([told[1][r] for r in (1, 2, 4, 5)], [()] * 4)
        self.assertEqual(inner_dilation(2, thin), (1, ((),)))

    def test_against_listing(self):
        rng = random.Random(661)
        periods = set()
        for _ in range(70):
            d = rng.choice((1, 2, 2, 3))
            rows = tuple(random_body(rng, d))
            told, inner = dilation(d, rows), inner_dilation(d, rows)
            self.assertTrue(is_told(told) and is_told(inner))
            periods.add(told[0])
            for t in range(1, 8 if d < 3 else 4):
                self.assertEqual(dilation_value(told, t), (listed(d, rows, t, False, 2 * t + 1), 1))
                self.assertEqual(dilation_value(inner, t), (listed(d, rows, t, True, 2 * t + 1), 1))
            for pair in (told, inner):
                for size in range(1, pair[0]):
                    self.assertFalse(pair[0] % size == 0 and repeats(pair, size), rows)
        self.assertGreater(len(periods), 3)

    def test_inside_is_the_outside_of_the_opposite(self):
        rng = random.Random(662)
        inside = 0
        for _ in range(110):
            d = rng.randint(1, 3)
            rows = tuple(random_body(rng, d))
            told, inner = dilation(d, rows), inner_dilation(d, rows)
            # At a multiple of all entries, a point inside is a whole one.
            if listed(d, rows, 6, True, 13) and d < 3 or dilation_value(inner, 36) != (0, 1):
                inside += 1
                for t in (-FAR, -7, -3, -2, -1, 1, 2, 3, 7, FAR, FAR + 1):
                    a, b = dilation_value(inner, t)
                    self.assertEqual(dilation_value(told, -t), ((-1) ** d * a, b))
        self.assertGreater(inside, 20)

    def test_value(self):
        told = (3, (((1, 2), (0, 1), (5, 3)), (), ((4, 1),)))
        for t in (*range(-9, 10), FAR, -FAR):
            poly = told[1][t % 3]
            wanted = sum((Fraction(*part) * t ** n for n, part in enumerate(poly)), Fraction(0))
            self.assertEqual(dilation_value(told, t), (wanted.numerator, wanted.denominator))
        self.assertEqual(dilation_value(told=told, t=0), (1, 2))
        self.assertEqual(dilation_value((1, ((),)), 0), (0, 1))
        # A body with whole corners has one point at 0.
        self.assertEqual(dilation_value(dilation(3, tuple(box(3, -2, 5))), 0), (1, 1))

    def test_by_known_sums(self):
        self.assertEqual([dilation_value(dilation(4, tuple(box(4, 0, 1))), t) for t in (1, 2, FAR)], [(16, 1), (81, 1), ((FAR + 1) ** 4, 1)])
        self.assertEqual(dilation_value(inner_dilation(4, tuple(box(4, 0, 1))), FAR), ((FAR - 1) ** 4, 1))
        # a 6-fold and b 9-fold together up to t, by adding up.
        told = dilation(2, ((0, 1, 0), (0, 0, 1), (1, -6, -9)))
        self.assertEqual(told[0], 18)
        for t in (1, 5, 17, 18, 19, 100):
            self.assertEqual(dilation_value(told, t), (sum((t - 9 * b) // 6 + 1 for b in range(t // 9 + 1)), 1))

    def test_great(self):
        # First entries and sizes at the bounds.
        rows = ((10 ** 9, 12, 0), (10 ** 9, 0, 11), (10 ** 9, -1, -12), (7, 5, 0))
        told = dilation(2, rows)
        # For each y from low to top, x goes from -1 to 10 ** 9 - 12 y.
        low, top = -(10 ** 9 // 11), (10 ** 9 + 1) // 12
        count = top - low + 1
        self.assertEqual(dilation_value(told, 1), (count * (10 ** 9 + 2) - 6 * (low + top) * count, 1))

    def test_many_periods(self):
        told = dilation(3, ((0, 7, 0, 0), (0, 0, 5, 0), (0, 0, 0, 1), (1, -8, -9, -11)))
        self.assertTrue(is_told(told))
        self.assertEqual(told[0], 8 * 9 * 11)
        for t in (1, 30, 100):
            wanted = sum((t - 9 * b - 11 * c) // 8 + 1 for c in range(t // 11 + 1) for b in range((t - 11 * c) // 9 + 1))
            self.assertEqual(dilation_value(told, t), (wanted, 1))

    def test_errors(self):
        for d, rows in ((1, ()), (1, ((0, 1),)), (2, tuple(box(1, 0, 1)[0] + (0,) for _ in range(2))), (2, ((0, 1, 1), (1, -1, -1))),
                        (1, ((-1, 0),)), (3, ((5, 1, 1, 1), (5, -1, 0, 0), (5, 0, -1, 0), (-1, 0, 0, 0)))):
            self.assertRaises(NotBounded, dilation, d, rows)
            self.assertRaises(NotBounded, inner_dilation, d, rows)


if __name__ == "__main__":
    unittest.main()
