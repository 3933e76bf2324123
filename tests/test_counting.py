import random
import unittest

from pointtally.counting import count_at, is_finite, tally_of, weighted_of
from pointtally.errors import NotBounded, NotFormula
from pointtally.formtexts import read_room
from pointtally.listing import listed
from pointtally.sets import is_finite_set, pieces_of, points_at
from pointtally.tallies import tally_breach
from tests.oracles import poly_at, random_poly, tally_at
from tests.tools import JUNK, random_formula

FAR = 10 ** 40


def walls(rng, k, d):
    """Return rows that hold the unknowns in boxes that hang on the parameters."""
    found = []
    for j in range(k, k + d):
        for sign in (1, -1):
            front = [rng.randint(-1, 1) for _ in range(k)]
            found.append(("row", (rng.randint(0, 4), *front, *[sign * (i == j) for i in range(k, k + d)])))
    return found


class Finite(unittest.TestCase):
    def test_by_hand(self):
        for text, told in (("for n count i where 0 <= i and i <= n", True), ("for n count i where 0 <= i", False),
                           ("for n count i where i = 0 or n < 0 and n > 0", True), ("for n count i where n < 5 and n > 3 and i > n", False),
                           ("for n count i where 2 n = 5 and i > n", True), ("for n count i where not (i < n or i > n)", True),
                           ("for n count i, j where i + j = n", False), ("for n count i, j where i + j = n and i >= 0 and j >= 0", True),
                           ("for n where n > 5", True), ("where true", True), ("count i where false", True), ("count i where true", False),
                           ("count i where some j (i = 2 j and j > 3 and j < 9)", True), ("count i where some j (i = 2 j)", False),
                           ("count i where not some j (i < 2 j or i > 2 j)", True), ("count i where 3 divides (i)", False),
                           ("count i, j where 2 i - 2 j = 1", True), ("count i where 2 divides (i) and 4 divides (i + 1)", True),
                           ("count i, j where i >= 0 and j >= 0 and (i <= 4 or j <= 4)", False),
                           ("count i, j where i >= 0 and j >= 0 and not (i >= 4 or j >= 4)", True)):
            k, d, _, formula = read_room(text)
            self.assertIs(is_finite(k, d, formula), told, text)
            for call in (lambda: tally_of(k, d, formula), lambda: weighted_of(k, d, formula, ()), lambda: count_at(k, d, formula, (3,) * k)):
                if told:
                    call()
                else:
                    self.assertRaises(NotBounded, call)

    def test_random(self):
        rng = random.Random(621)
        seen = {True: 0, False: 0}
        for _ in range(250):
            k, d = rng.randint(0, 2), rng.randint(0, 2)
            formula = random_formula(rng, k + d, 3, 1, 3)
            if rng.randint(0, 1):
                formula = ("and", formula, *walls(rng, k, d)[rng.randint(0, 1):])
            told = is_finite(k, d, formula)
            self.assertIs(told, is_finite_set(pieces_of(k, d, formula)))
            seen[told] += 1
        self.assertGreater(min(seen.values()), 60)

    def test_not_finite_whatever_p_is(self):
        k, d, _, formula = read_room("for n count i where 0 <= i and (i <= n or n > 1000)")
        for p in (-5, 3, 1001):
            self.assertRaises(NotBounded, count_at, k, d, formula, (p,))
        self.assertRaises(NotBounded, tally_of, k, d, formula)
        self.assertRaises(NotBounded, weighted_of, k, d, formula, (((1, 1), (0, 0)),))


class Counts(unittest.TestCase):
    def test_against_listing(self):
        rng = random.Random(622)
        filled = 0
        for _ in range(160):
            k, d = rng.randint(0, 2), rng.randint(0, 2)
            formula = ("and", *walls(rng, k, d), random_formula(rng, k + d, 3, 0, 3))
            weight = random_poly(rng, k + d, 4)
            tally, weighted = tally_of(k, d, formula), weighted_of(k, d, formula, weight)
            self.assertIsNone(tally_breach(tally, k))
            self.assertIsNone(tally_breach(weighted, k))
            for _ in range(4):
                p = tuple(rng.randint(-5, 5) for _ in range(k))
                there = listed(k, d, formula, p, -15, 15, 0)
                filled += bool(there)
                self.assertEqual(tally_at(tally, p), len(there), (formula, p))
                self.assertEqual(count_at(k, d, formula, p), len(there))
                self.assertEqual(tally_at(weighted, p), sum(poly_at(weight, (*p, *x)) for x in there))
            far = tuple(rng.randint(-FAR, FAR) for _ in range(k))
            self.assertEqual(tally_at(tally, far), count_at(k, d, formula, far))
        self.assertGreater(filled, 150)

    def test_some(self):
        rng = random.Random(623)
        for _ in range(100):
            k, d = rng.randint(0, 1), rng.randint(0, 2)
            inner = random_formula(rng, k + d + 1, 2, 1, 2)
            held = ("and", ("row", (rng.randint(0, 5), *[0] * (k + d), 1)), ("row", (rng.randint(0, 5), *[0] * (k + d), -1)), inner)
            some = ("some", held)
            if rng.randint(0, 2) == 0:
                some = ("not", some)
            formula = ("and", *walls(rng, k, d), some)
            tally, weight = tally_of(k, d, formula), random_poly(rng, k + d, 3)
            weighted, pieces = weighted_of(k, d, formula, weight), pieces_of(k, d, formula)
            for p in ([()] if k == 0 else [(-3,), (0,), (4,)]):
                there = points_at(pieces, p, 10000)
                if str(inner).count("some") == 0:
                    self.assertEqual(there, listed(k, d, formula, p, -15, 15, 5))
                self.assertEqual(tally_at(tally, p), len(there))
                self.assertEqual(count_at(k, d, formula, p), len(there))
                self.assertEqual(tally_at(weighted, p), sum(poly_at(weight, (*p, *x)) for x in there))
            far = (rng.randint(-FAR, FAR),) * k
            self.assertEqual(tally_at(tally, far), count_at(k, d, formula, far))

    def test_by_hand(self):
        k, d, _, formula = read_room("for n count i, j where 0 <= i and i <= j and j < n and 3 divides (i + j)")
        tally = tally_of(k=k, d=d, formula=formula)
        for n in range(-3, 30):
            wanted = sum((i + j) % 3 == 0 for j in range(n) for i in range(j + 1))
            self.assertEqual((tally_at(tally, (n,)), count_at(k=k, d=d, formula=formula, p=(n,))), (wanted, wanted))
        self.assertIs(type(count_at(k, d, formula, (9,))), int)
        # The unlike cells that a body touches: x = 3 i + 5 j for i and j below n.
        k, d, _, formula = read_room("for n count x where some i (some j (0 <= i and i < n and 0 <= j and j < n and x = 3 i + 5 j))")
        tally = tally_of(k, d, formula)
        for n in range(-2, 25):
            self.assertEqual(tally_at(tally, (n,)), len({3 * i + 5 * j for i in range(n) for j in range(n)}))
        self.assertEqual(count_at(k, d, formula, (FAR,)), tally_at(tally, (FAR,)))
        # How often a body's multiples hold a whole point.
        k, d, _, formula = read_room("for n count t where 1 <= t and t <= n and some i (2 t <= 7 i and 5 i <= 2 t)")
        tally = tally_of(k, d, formula)
        for n in range(-1, 60):
            wanted = sum(any(2 * t <= 7 * i and 5 * i <= 2 * t for i in range(n + 1)) for t in range(1, n + 1))
            self.assertEqual(tally_at(tally, (n,)), wanted)

    def test_no_unknowns(self):
        k, d, _, formula = read_room("for n, m where n <= m and 2 divides (n) or some q (n = 3 q and m = n)")
        tally = tally_of(k, d, formula)
        for n in range(-7, 8):
            for m in range(-7, 8):
                wanted = int((n <= m and n % 2 == 0) or (n % 3 == 0 and n == m))
                self.assertEqual((tally_at(tally, (n, m)), count_at(k, d, formula, (n, m))), (wanted, wanted))
                self.assertEqual(tally_at(weighted_of(k, d, formula, (((3, 2), (1, 2)),)), (n, m)), wanted * 3 * n * m * m / 2)
        self.assertEqual((count_at(0, 0, ("and",), ()), count_at(0, 0, ("or",), ())), (1, 0))
        self.assertEqual((tally_at(tally_of(0, 0, ("and",)), ()), tally_at(tally_of(0, 0, ("or",)), ())), (1, 0))

    def test_three_parameters(self):
        k, d, _, formula = read_room("for a, b, c count i where (a <= i and i <= b) or (b <= i and i <= c and not 2 divides (i))")
        tally = tally_of(k, d, formula)
        rng = random.Random(624)
        for _ in range(60):
            p = tuple(rng.randint(-9, 9) for _ in range(3))
            a, b, c = p
            wanted = sum(a <= i <= b or (b <= i <= c and i % 2) for i in range(-10, 11))
            self.assertEqual((tally_at(tally, p), count_at(k, d, formula, p)), (wanted, wanted))
            far = tuple(FAR * n for n in p)
            self.assertEqual(tally_at(tally, far), count_at(k, d, formula, far))

    def test_weights(self):
        k, d, _, formula = read_room("for n count i, j where 0 <= i and 2 i <= j and j <= n")
        self.assertEqual(tally_at(weighted_of(k, d, formula, ()), (9,)), 0)
        for exponents in ((0, 0, 0), (4, 0, 0), (0, 4, 0), (0, 0, 4), (1, 2, 1), (0, 2, 2)):
            tally = weighted_of(k=k, d=d, formula=formula, weight=(((5, 3), exponents),))
            for n in range(-2, 12):
                wanted = sum(poly_at((((5, 3), exponents),), (n, i, j)) for j in range(n + 1) for i in range(j // 2 + 1))
                self.assertEqual(tally_at(tally, (n,)), wanted)

    def test_many_rows(self):
        # Twelve walls around 0 in four letters; and what lies outside some of them within a cube.
        cube = ("and", *[("row", (1, *[sign * (i == j) for i in range(4)])) for j in range(4) for sign in (1, -1)])
        heads = ((1, 1, 1, -1), (1, -1, 1, 1), (-1, 1, 1, 1), (1, 1, -1, 1))
        more = ("and", *[("row", (2, *head)) for head in heads])
        for formula in (("and", cube, more), ("and", cube, ("not", more)), ("and", cube, ("or", ("not", more), ("row", (-3, 1, 1, 1, 1))))):
            there = len(listed(0, 4, formula, (), -1, 1, 0))
            self.assertEqual(count_at(0, 4, formula, ()), there)
            self.assertEqual(tally_at(tally_of(0, 4, formula), ()), there)

    def test_endless_without_points(self):
        # A prism over a triangle that holds no whole point goes on along a slanted line, one way or both ways.
        prism = [("row", (f, a, b, -3 * a - 5 * b)) for f, a, b in ((-1, 3, 0), (-1, 0, 3), (4, -3, -3))]
        box = [("row", (3, *[sign * (i == j) for i in range(3)])) for j in range(3) for sign in (1, -1)]
        for formula in (("and", *prism), ("and", *prism, ("row", (0, 0, 0, 1)))):
            self.assertIs(is_finite(0, 3, formula), True)
            self.assertEqual((count_at(0, 3, formula, ()), tally_at(tally_of(0, 3, formula), ())), (0, 0))
            both = ("or", formula, ("and", *box, ("row", (1, 1, 1, -2))))
            there = len(listed(0, 3, both, (), -3, 3, 0))
            self.assertEqual((count_at(0, 3, both, ()), tally_at(tally_of(0, 3, both), ())), (there, there))

    def test_more_rows(self):
        # More rows than the document lets, as formulas that are made of others may have.
        rng = random.Random(627)
        for k, d, many in ((1, 2, 16), (0, 2, 20), (1, 1, 15)):
            atoms = [("row", tuple(rng.randint(-4, 4) for _ in range(k + d + 1))) for _ in range(many)]
            box = [("row", (5, *[0] * k, *[sign * (i == j) for i in range(d)])) for j in range(d) for sign in (1, -1)]
            parts = [("and", atoms[i], ("not", atoms[i + 1]), ("or", atoms[(i + 3) % many], atoms[(i + 5) % many])) for i in range(0, many - 1, 2)]
            formula = ("and", *box, ("or", *parts))
            tally = tally_of(k, d, formula)
            for p in ([()] if k == 0 else [(-7,), (0,), (3,)]):
                there = len(listed(k, d, formula, p, -5, 5, 0))
                self.assertEqual((count_at(k, d, formula, p), tally_at(tally, p)), (there, there))

    def test_overlaps(self):
        # Ands, ors and nots of the same rows and divisibilities: what is counted twice is taken away again.
        rng = random.Random(626)
        for _ in range(60):
            atoms = [("row", tuple(rng.randint(-4, 4) for _ in range(3))) for _ in range(4)]
            atoms += [("divides", rng.randint(2, 6), tuple(rng.randint(-4, 4) for _ in range(3))) for _ in range(3)]
            formula = ("or", *[("and", *[rng.choice((a, ("not", a))) for a in rng.sample(atoms, 3)]) for _ in range(4)])
            formula = ("and", ("row", (6, 1, 0)), ("row", (6, -1, 0)), ("row", (6, 0, 1)), ("row", (6, 0, -1)), formula)
            there = len(listed(0, 2, formula, (), -6, 6, 0))
            self.assertEqual(count_at(0, 2, formula, ()), there)
            self.assertEqual(tally_at(tally_of(0, 2, formula), ()), there)


class Errors(unittest.TestCase):
    def test_not_formula(self):
        calls = (lambda k, d, f: is_finite(k, d, f), lambda k, d, f: tally_of(k, d, f), lambda k, d, f: weighted_of(k, d, f, ()),
                 lambda k, d, f: count_at(k, d, f, (0,) * k))
        for call in calls:
            for value in JUNK:
                with self.assertRaises(NotFormula) as caught:
                    call(1, 1, value)
                self.assertIn(caught.exception.path, ((), (1,)))
            # What is no formula comes first, also where the rest of it goes on.
            with self.assertRaises(NotFormula) as caught:
                call(1, 1, ("or", ("row", (0, 0, 1)), ("not", ("row", (0, 0, 1, 0)))))
            self.assertEqual(caught.exception.path, (2, 1, 1))
            with self.assertRaises(NotFormula) as caught:
                call(0, 1, ("some", ("divides", 13, (0, 1))))
            self.assertEqual(caught.exception.path, (1, 1))


if __name__ == "__main__":
    unittest.main()
