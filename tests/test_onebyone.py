import random
import unittest
from itertools import product

from pointtally.alike import alike
from pointtally.counting import count_at, is_finite, tally_of, weighted_of
from pointtally.errors import NotBounded, NotFormula
from pointtally.formtexts import read_room
from pointtally.grids import whole_grid
from pointtally.listing import listed
from pointtally.onebyone import count_by_sums, sums_of_piece, tally_by_sums
from pointtally.sets import pieces_of, points_at
from pointtally.tallies import tally_breach
from tests.oracles import has, poly_at, random_poly, tally_at
from tests.test_counting import walls
from tests.tools import JUNK, random_formula

FAR = 10 ** 40


class Counts(unittest.TestCase):
    def test_against_listing(self):
        rng = random.Random(691)
        filled = 0
        for _ in range(110):
            k, d = rng.randint(0, 2), rng.randint(0, 2)
            formula = ("and", *walls(rng, k, d), random_formula(rng, k + d, 3, 0, 3))
            weight = random_poly(rng, k + d, 4)
            tally, weighted = tally_by_sums(k, d, formula), tally_by_sums(k, d, formula, weight)
            self.assertIsNone(tally_breach(tally, k))
            self.assertIsNone(tally_breach(weighted, k))
            for _ in range(4):
                p = tuple(rng.randint(-5, 5) for _ in range(k))
                there = listed(k, d, formula, p, -15, 15, 0)
                filled += bool(there)
                self.assertEqual(tally_at(tally, p), len(there), (formula, p))
                self.assertEqual(count_by_sums(k, d, formula, p), len(there))
                self.assertEqual(tally_at(weighted, p), sum(poly_at(weight, (*p, *x)) for x in there))
            far = tuple(rng.randint(-FAR, FAR) for _ in range(k))
            self.assertEqual(tally_at(tally, far), count_by_sums(k, d, formula, far))
            self.assertEqual(count_by_sums(k, d, formula, far), count_at(k, d, formula, far))
            self.assertEqual(tally_at(weighted, far), tally_at(weighted_of(k, d, formula, weight), far))
        self.assertGreater(filled, 100)

    def test_alike_at_all_p(self):
        rng = random.Random(692)
        for _ in range(60):
            k = rng.randint(0, 3)
            d = rng.randint(0, (3, 3, 2, 1)[k])
            formula = ("and", *walls(rng, k, d), random_formula(rng, k + d, 2, 1 if k + d < 4 else 0, 2))
            weight = random_poly(rng, k + d, 3)
            if is_finite(k, d, formula):
                self.assertIsNone(alike(tally_by_sums(k, d, formula), tally_of(k, d, formula), k), formula)
                self.assertIsNone(alike(tally_by_sums(k, d, formula, weight), weighted_of(k, d, formula, weight), k), formula)

    def test_some(self):
        rng = random.Random(693)
        for _ in range(50):
            k, d = rng.randint(0, 1), rng.randint(0, 2)
            held = ("and", ("row", (rng.randint(0, 5), *[0] * (k + d), 1)), ("row", (rng.randint(0, 5), *[0] * (k + d), -1)),
                    random_formula(rng, k + d + 1, 2, 1, 2))
            some = ("some", held) if rng.randint(0, 2) else ("not", ("some", held))
            formula = ("and", *walls(rng, k, d), some)
            tally, pieces = tally_by_sums(k, d, formula), pieces_of(k, d, formula)
            for p in ([()] if k == 0 else [(-3,), (0,), (4,)]):
                there = points_at(pieces, p, 10000)
                self.assertEqual((tally_at(tally, p), count_by_sums(k, d, formula, p)), (len(there), len(there)))

    def test_by_hand(self):
        k, d, _, formula = read_room("for n count i, j where 0 <= i and i <= j and j < n and 3 divides (i + j)")
        tally = tally_by_sums(k=k, d=d, formula=formula, weight=None)
        for n in range(-3, 25):
            wanted = sum((i + j) % 3 == 0 for j in range(n) for i in range(j + 1))
            self.assertEqual((tally_at(tally, (n,)), count_by_sums(k=k, d=d, formula=formula, p=(n,))), (wanted, wanted))
        self.assertIs(type(count_by_sums(k, d, formula, (9,))), int)
        # Not finite pieces that hold no point: 2 x = 2 y + 1 between two lines.
        formula = ("or", formula, ("and", ("row", (-1, 0, 2, -2)), ("row", (1, 0, -2, 2))))
        self.assertEqual([tally_at(tally_by_sums(1, 2, formula), (n,)) for n in range(6)], [tally_at(tally, (n,)) for n in range(6)])

    def test_pieces_that_take_away(self):
        # Without what some holds, and without what is divisible: no more is left than finitely many.
        for text in ("count i where i >= 0 and not some j (i = j and j >= 7)", "for n count i where i >= n and not (i >= 5 or i < -4)",
                     "for n count i, j where i = 12 j and i >= n and not 4 divides (i)", "count i, j where 2 i >= 3 j and 2 i <= 3 j and i >= 0 and not 3 divides (i)",
                     "count i where i >= 0 and (i <= 5 or some j (i = 2 j and j <= 9)) and (not some j (i = 2 j) or i < 20)"):
            k, d, _, formula = read_room(text)
            tally = tally_by_sums(k, d, formula)
            for p in product(range(-8, 8), repeat=k):
                there = listed(k, d, formula, p, -25, 25, 30)
                self.assertEqual((tally_at(tally, p), count_by_sums(k, d, formula, p)), (len(there), len(there)), text)

    def test_no_unknowns(self):
        # Finite at no p, at some, at all: without unknowns there is one point, or none.
        for formula in (("or",), ("and",), ("row", (4, -1)), ("divides", 3, (1, 2)), ("some", ("and", ("row", (0, 1, -2)), ("row", (0, -1, 2))))):
            tally = tally_by_sums(1, 0, formula)
            for n in range(-9, 10):
                there = len(listed(1, 0, formula, (n,), 0, 0, 9))
                self.assertEqual((tally_at(tally, (n,)), count_by_sums(1, 0, formula, (n,))), (there, there))
                weighted = tally_by_sums(1, 0, formula, (((3, 2), (2,)),))
                self.assertEqual(tally_at(weighted, (n,)), there * 3 * n * n / 2)
        self.assertEqual((count_by_sums(0, 0, ("and",), ()), count_by_sums(0, 0, ("or",), ())), (1, 0))
        self.assertEqual((tally_at(tally_by_sums(0, 0, ("and",)), ()), tally_at(tally_by_sums(0, 0, ("or",)), ())), (1, 0))

    def test_weights(self):
        k, d, _, formula = read_room("for n count i, j where 0 <= i and 2 i <= j and j <= n")
        self.assertEqual(tally_at(tally_by_sums(k, d, formula, ()), (9,)), 0)
        for exponents in ((0, 0, 0), (4, 0, 0), (0, 4, 0), (0, 0, 4), (1, 2, 1), (0, 2, 2)):
            tally = tally_by_sums(k=k, d=d, formula=formula, weight=(((5, 3), exponents),))
            for n in range(-2, 12):
                wanted = sum(poly_at((((5, 3), exponents),), (n, i, j)) for j in range(n + 1) for i in range(j // 2 + 1))
                self.assertEqual(tally_at(tally, (n,)), wanted)

    def test_more_unknowns(self):
        for text in ("for n count i, j, l, q where i >= 0 and j >= 0 and l >= 0 and q >= 0 and 2 i + 3 j + 5 l + 6 q <= n",
                     "for n count i, j, l, q where i >= 0 and j >= 0 and l >= 0 and q >= 0 and 2 i + 3 j + 5 l + 6 q = n",
                     "for n, m count i, j, l where 5 i >= n + 2 j and 6 j <= m - i and j >= 2 i - m and 3 i + 4 j + l <= 7 n + 5 and i - 5 j <= 9 and 3 l >= i - j + n",
                     "for n, m count i, j, l where 0 <= i and i <= j and j <= l and l <= n and i + j + l <= m",
                     "count i, j, l, q, r where i >= 0 and j >= i and l >= j and q >= l and r >= q and r <= 40"):
            k, d, _, formula = read_room(text)
            if is_finite(k, d, formula):
                one, other = tally_of(k, d, formula), tally_by_sums(k, d, formula)
                for p in ((7, 9), (30, 41), (-3, 5), (FAR, FAR + 5), (-FAR, FAR)):
                    told = count_at(k, d, formula, p[:k])
                    self.assertEqual((tally_at(one, p[:k]), tally_at(other, p[:k]), count_by_sums(k, d, formula, p[:k])), (told,) * 3)


class Pieces(unittest.TestCase):
    def test_pieces_of_a_formula(self):
        rng = random.Random(694)
        for _ in range(40):
            k, d = rng.randint(0, 2), rng.randint(0, 2)
            formula = ("and", *walls(rng, k, d), random_formula(rng, k + d, 2, 0, 3))
            weight = random_poly(rng, k + d, 4)
            whole = ()
            for piece in pieces_of(k, d, formula):
                tally = sums_of_piece(piece, weight)
                self.assertIsNone(tally_breach(tally, k))
                whole += tally
                for _ in range(2):
                    p = tuple(rng.randint(-3, 3) for _ in range(k))
                    wanted = sum(poly_at(weight, (*p, *x)) for x in product(range(-11, 12), repeat=d) if has(piece, (*p, *x)))
                    self.assertEqual(tally_at(tally, p), wanted)
            for _ in range(3):
                p = tuple(rng.randint(-FAR, FAR) for _ in range(k))
                self.assertEqual(tally_at(whole, p), tally_at(weighted_of(k, d, formula, weight), p))

    def test_grids(self):
        # On a grid whose parameters and unknowns hang on one another.
        piece = ((1, 1, ((0, -2, 3), (9, 2, -3), (4, 1, 0))), (((4, 0), (3, 5)), (1, 2)))
        weight = (((1, 1), (0, 2)), ((1, 3), (1, 1)))
        tally = sums_of_piece(piece=piece, weight=weight)
        for p in range(-30, 40):
            wanted = sum(poly_at(weight, (p, x)) for x in range(-200, 200) if has(piece, (p, x)))
            self.assertEqual(tally_at(tally, (p,)), wanted)

    def test_slanting_lattices(self):
        # Divisibilities of several unknowns leave lattices on which plain unknowns have long heads.
        k, d, _, formula = read_room(
            "count a, b, c, e where 0 <= a and a <= 1 and 0 <= b and b <= 1 and -2 <= c and c <= 1 and -3 <= e and e <= 3 and "
            "12 divides (1 - a + b - e) and 1 - a + b >= e and 11 divides (1 - a + b - c + e)")
        wanted = len(listed(k, d, formula, (), -3, 3, 0))
        self.assertEqual((count_by_sums(k, d, formula, ()), tally_at(tally_by_sums(k, d, formula), ())), (wanted, wanted))
        k, d, _, formula = read_room(
            "for n count x, y, z where 0 <= x and x <= n and -3 <= y and y <= n and 0 <= z and x + z <= 40 and "
            "11 divides (n - x - y + 2 z + 4) and 6 divides (1 - n + x - y + z)")
        tally, other = tally_by_sums(k, d, formula), tally_of(k, d, formula)
        for n in (-1, 0, 3, 17):
            wanted = sum((n - x - y + 2 * z + 4) % 11 == 0 and (1 - n + x - y + z) % 6 == 0
                         for x in range(min(n, 40) + 1) for y in range(-3, n + 1) for z in range(41 - x))
            self.assertEqual((tally_at(tally, (n,)), tally_at(other, (n,)), count_by_sums(k, d, formula, (n,))), (wanted,) * 3)
        self.assertEqual(tally_at(tally, (FAR,)), tally_at(other, (FAR,)))

    def test_rays(self):
        one = (((1, 1), (0, 0)),)
        for rows, goes_on in ((((0, 0, 1),), True), ((), True), (((0, 0, 1), (-1, 0, 0)), False), (((0, 0, 1), (-3, 2, 0), (3, -2, 0)), False),
                              (((-1, 3, 0), (2, -3, 0)), False), (((-1, 3, 0), (3, -3, 0)), True), (((0, 0, 1), (5, 0, -1)), False)):
            piece = ((1, 1, rows), whole_grid(2))
            if goes_on:
                self.assertRaises(NotBounded, sums_of_piece, piece, one)
            else:
                wanted = 6 if rows == ((0, 0, 1), (5, 0, -1)) else 0
                self.assertEqual(tally_at(sums_of_piece(piece, one), (1,)), wanted)
        # A prism over a triangle without whole points has a ray and no point.
        prism = ((0, 3, ((-1, 3, 0, 0), (-1, 0, 3, 0), (4, -3, -3, 0))), whole_grid(3))
        self.assertEqual(tally_at(sums_of_piece(prism, (((1, 1), (0, 0, 0)),)), ()), 0)
        self.assertRaises(NotBounded, sums_of_piece, ((0, 3, prism[0][2][:2]), whole_grid(3)), ())


class Errors(unittest.TestCase):
    def test_not_formula(self):
        calls = (lambda k, d, f: tally_by_sums(k, d, f), lambda k, d, f: tally_by_sums(k, d, f, ()), lambda k, d, f: count_by_sums(k, d, f, (0,) * k))
        for call in calls:
            for value in JUNK:
                with self.assertRaises(NotFormula) as caught:
                    call(1, 1, value)
                self.assertIn(caught.exception.path, ((), (1,)))
            # What is no formula comes first, also where the rest of it goes on.
            with self.assertRaises(NotFormula) as caught:
                call(1, 1, ("or", ("row", (0, 0, 1)), ("not", ("row", (0, 0, 1, 0)))))
            self.assertEqual(caught.exception.path, (2, 1, 1))

    def test_not_bounded(self):
        for text in ("for n count i where 0 <= i", "for n count i where 0 <= i and (i <= n or n > 1000)", "count i, j where 2 i = 3 j", "count i where 7 divides (i)"):
            k, d, _, formula = read_room(text)
            self.assertRaises(NotBounded, tally_by_sums, k, d, formula)
            self.assertRaises(NotBounded, tally_by_sums, k, d, formula, ())
            for n in (-4, 1001):
                self.assertRaises(NotBounded, count_by_sums, k, d, formula, (n,) * k)


if __name__ == "__main__":
    unittest.main()
