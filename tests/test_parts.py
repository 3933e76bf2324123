import random
import unittest
from itertools import product

from pointtally.counting import tally_of
from pointtally.formtexts import read_room
from pointtally.parts import parts
from pointtally.tallies import added, constant, less, value
from tests.oracles import is_poly, poly_at, tally_at, value_of
from tests.test_alike import at_points, random_tally

FAR = 10 ** 40
ONE = (((1, 1), ()),)


def holding(told, p):
    """Return the polynomials of the parts that hold at p."""
    found = []
    for rows, gates, poly in told:
        if all(value_of(row, p) >= 0 for row in rows) and all(value_of(form, p) % n == 0 for n, form in gates):
            found.append(poly)
    return found


class Parts(unittest.TestCase):
    def check(self, tally, k, points):
        told = parts(tally, k)
        self.assertIs(type(told), tuple)
        for part in told:
            self.assertEqual((type(part), len(part)), (tuple, 3))
            rows, gates, poly = part
            self.assertTrue(is_poly(poly, k))
            for form in (*rows, *[form for _, form in gates]):
                self.assertEqual((type(form), len(form)), (tuple, k + 1))
            self.assertTrue(all(n >= 2 for n, _ in gates))
        for p in points:
            found = holding(told, p)
            self.assertLessEqual(len(found), 1, p)
            self.assertEqual(poly_at(found[0], p) if found else 0, tally_at(tally, p), p)
        return told

    def test_by_hand(self):
        points = [(p,) for p in (*range(-30, 31), FAR, FAR + 1, -FAR)]
        self.assertEqual(self.check((), 1, points), ())
        self.assertEqual(self.check((((), (), ((2, (0, 1)),), ()),), 1, points), ())
        self.check((((), (), ((2, (0, 1)),), (((1, 1), (1,)),)),), 1, points)
        self.check((((), (), ((3, (1, 1)), (2, (0, 1))), (((1, 2), (1, 3)),)),), 1, points)
        # Choices where no part holds, and where terms take one another away.
        tally = ((((0, 1), (9, -1)), ((2, (0, 1)),), (), ONE),)
        told = self.check(tally, 1, points)
        self.assertEqual([holding(told, (p,)) for p in (-2, 1, 10)], [[], [], []])
        self.assertEqual(parts(tally=less(tally, tally), k=1), ())

    def test_no_parameters(self):
        self.check((), 0, [()])
        self.assertEqual(self.check(constant((3, 2)), 0, [()]), (((), (), (((3, 2), ()),)),))
        self.check((((), ((2, (8,)),), ((3, (8,)),), (((1, 2), (2,)),)), (((-1,),), (), (), ONE)), 0, [()])
        self.assertEqual(parts(less(constant((1, 2)), constant((1, 2))), 0), ())

    def test_random(self):
        rng = random.Random(651)
        for _ in range(120):
            k = rng.choice((0, 1, 1, 2))
            tally = random_tally(rng, k, 3, 6 if k < 2 else 4)
            reach = 25 if k < 2 else 7
            points = list(product(range(-reach, reach + 1), repeat=k))
            points += [tuple(rng.randint(-FAR, FAR) for _ in range(k)) for _ in range(10)]
            self.check(tally, k, points)

    def test_thin_cells(self):
        # Few points, many classes: between two rows, and single ones.
        tally = ((((0, 1), (5, -1)), (), ((101, (3, 7)), (103, (1, 9))), (((1, 1), (1, 1)),)), *at_points(1, {(77,): 3}))
        self.check(tally, 1, [(p,) for p in range(-10, 90)])
        strip = ((((0, 3, -2), (5, -3, 2)), (), ((6, (0, 1, 1)),), (((1, 1), (2,)),)), *at_points(2, {(4, 6): 1}))
        self.check(strip, 2, list(product(range(-12, 13), repeat=2)))
        self.check(strip, 2, [(2 * FAR + i, 3 * FAR + j) for i in range(-4, 5) for j in range(-4, 5)])

    def test_many_classes(self):
        rng = random.Random(652)
        steps = ((20000, (123, 7)), (16, (5, 1)))
        tally = ((((0, 1),), (), steps, (((1, 1), (1, 1)), ((1, 3), (2, 0)))),)
        self.check(tally, 1, [(rng.randint(-FAR, FAR),) for _ in range(12)] + [(p,) for p in (-1, 0, 1, 19999)])
        # Few parts tell a single rest.
        tally = added(((((5, 1),), ((20000, (123, 1)),), (), ONE),), (((), (), ((1, (0, 1)),), (((1, 2), (2,)),)),))
        told = self.check(tally, 1, [(rng.randint(-FAR, FAR),) for _ in range(40)] + [(20000 * n - 123,) for n in range(-3, 4)])
        self.assertLess(len(told), 100)
        square = (((), (), ((24, (1, 5, 7)), (24, (0, 1, -1))), (((1, 1), (1, 1)),)),)
        self.check(square, 2, [(rng.randint(-FAR, FAR), rng.randint(-99, 99)) for _ in range(20)])

    def test_tallies_of_the_package(self):
        rng = random.Random(653)
        for text in ("for n, m count i, j where 0 <= i and 2 i <= n + j and 3 j <= m - i and j >= 0",
                     "for n count x where some i (some j (0 <= i and i < n and 0 <= j and j < n and x = 3 i + 5 j))",
                     "for n count i where 0 <= i and 7 i <= n + 5 and not 4 divides (i + n)"):
            k, d, _, formula = read_room(text)
            tally = tally_of(k, d, formula)
            points = list(product(range(-6, 12), repeat=k)) + [tuple(rng.randint(-FAR, FAR) for _ in range(k)) for _ in range(10)]
            told = self.check(tally, k, points)
            for p in points[:20]:
                found = holding(told, p)
                self.assertEqual(poly_at(found[0], p) if found else 0, value(tally, p)[0])


if __name__ == "__main__":
    unittest.main()
