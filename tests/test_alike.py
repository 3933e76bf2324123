import random
import unittest
from itertools import product

from pointtally.alike import alike, counts_alike
from pointtally.counting import count_at, tally_of, weighted_of
from pointtally.errors import NotBounded, NotFormula
from pointtally.formtexts import read_room
from pointtally.formulas import formula_put_in
from pointtally.halltallies import hall_paper, tally_by
from pointtally.summing import summed
from pointtally.tallies import added, constant, kept, less, put_in_tally, scaled, tidied, times
from tests.oracles import random_poly, tally_at
from tests.tools import JUNK, random_form, random_formula

ONE = (((1, 1), ()),)
LETTER = (((1, 1), (1,)),)
FAR = 10 ** 9


def order(p):
    return sum(map(abs, p)), p


def searched(one, other, k, reach):
    """Return the least choice up to a reach at which two tallies part, by trying."""
    for p in sorted(product(range(-reach, reach + 1), repeat=k), key=order):
        if order(p)[0] <= reach and tally_at(one, p) != tally_at(other, p):
            return p
    return None


def random_tally(rng, k, terms, n, high=9):
    found = []
    for _ in range(rng.randint(0, terms)):
        rows = tuple((rng.randint(-high, high), *random_form(rng, k - 1, 3)) if k else (rng.randint(-3, 9),) for _ in range(rng.randint(0, 3)))
        gates = tuple((rng.randint(2, n), random_form(rng, k, 4)) for _ in range(rng.randint(0, 1)))
        steps = tuple((rng.randint(1, n), random_form(rng, k, 4)) for _ in range(rng.randint(0, 2)))
        found.append((rows, gates, steps, random_poly(rng, len(steps), rng.randint(0, 4))))
    return tuple(found)


def at_points(k, numbers):
    """Return the tally with these values at single points, and 0 elsewhere."""
    terms = []
    for p, number in numbers.items():
        rows = []
        for i in range(k):
            unit = [int(j == i) for j in range(k)]
            rows += [(-p[i], *unit), (p[i], *[-entry for entry in unit])]
        terms.append((tuple(rows), (), (), (((number, 1), ()),)))
    return tuple(terms)


class Alike(unittest.TestCase):
    def test_by_hand(self):
        half, other, whole = (((), (), ((2, (0, 1)),), LETTER),), (((), (), ((2, (1, 1)),), LETTER),), (((), (), ((1, (0, 1)),), LETTER),)
        self.assertIsNone(alike(added(half, other), whole, 1))
        self.assertEqual(alike(one=half, other=other, k=1), (-1,))
        self.assertEqual(alike(half, whole, 1), (1,))
        self.assertIsNone(alike((), (), 3))
        self.assertIsNone(alike((((), (), (), ()),), (), 2))
        self.assertEqual(alike((), constant((1, 7)), 3), (0, 0, 0))
        # The number of even p from 0 to 9, by gates and as a row.
        evens = ((((0, 1), (9, -1)), ((2, (0, 1)),), (), ONE),)
        self.assertEqual(alike(evens, ((((0, 1), (9, -1)), (), (), ONE),), 1), (1,))
        self.assertIsNone(alike(evens, ((((0, 1), (8, -1)), ((2, (4, 3)),), (), ONE),), 1))

    def test_no_parameters(self):
        self.assertEqual(alike((), constant((3, 2)), 0), ())
        self.assertIsNone(alike(constant((3, 2)), (((), (), ((2, (7,)),), (((1, 2), (1,)),)),), 0))
        self.assertIsNone(alike((((), ((2, (7,)),), (), ONE), (((-1,),), (), (), ONE)), (), 0))

    def test_of_one_sum_the_least(self):
        # Choices with one sum of absolute values: the least as a tuple.
        for k in (1, 2, 3):
            points = [p for p in product(range(-3, 4), repeat=k) if order(p)[0] == 3]
            rng = random.Random(641 + k)
            for _ in range(8):
                some = rng.sample(points, rng.randint(1, min(4, len(points))))
                self.assertEqual(alike(at_points(k, {p: 1 for p in some}), (), k), min(some))
        self.assertEqual(alike(at_points(2, {(2, 0): 1, (-1, 2): 4, (0, -2): 3, (1, 1): 1}), (), 2), (0, -2))

    def test_random(self):
        rng = random.Random(642)
        seen = {True: 0, False: 0}
        for _ in range(300):
            k = rng.choice((0, 1, 1, 2, 2, 3))
            n, reach = (2, 4) if k == 3 else (4, 7) if k == 2 else (9, 25)
            one, other = random_tally(rng, k, 3, n), random_tally(rng, k, 3, n)
            if rng.randint(0, 2) == 0:
                other = tuple(rng.sample(one, len(one)))
            told, wanted = alike(one, other, k), searched(one, other, k, reach)
            seen[told is None] += 1
            if wanted is not None:
                self.assertEqual(told, wanted)
            elif told is not None:
                self.assertGreater(order(told)[0], reach)
                self.assertNotEqual(tally_at(one, told), tally_at(other, told))
        self.assertGreater(min(seen.values()), 60)

    def test_far(self):
        # Single points far away, beside something that is alike but written in two ways.
        rng = random.Random(643)
        for k, high in ((1, FAR), (2, FAR), (3, FAR), (1, 300), (2, 60), (3, 25)):
            for _ in range(6):
                points = [tuple(rng.randint(-high, high) for _ in range(k)) for _ in range(3)]
                row = (rng.randint(-FAR, FAR), *[rng.randint(-100, 100) for _ in range(k)])
                other = tuple(-entry for entry in (row[0] + 1, *row[1:]))
                steps = ((1, (4, *[1] * k)),)
                one = (((), (), steps, (((2, 1), (2,)),)), *at_points(k, {p: 1 for p in points}))
                cut = (((row,), (), steps, (((2, 1), (2,)),)), ((other,), (), steps, (((2, 1), (2,)),)))
                self.assertEqual(alike(one, cut, k), min(set(points), key=order))
                self.assertIsNone(alike(one[:1], cut, k))

    def test_edges_of_half_planes(self):
        # Closed and open: where the polynomial is 0 on the line between, both are alike.
        line, poly = (0, 100, -99), (((1, 1), (1, 1)),)
        steps = ((1, (0, 1, 0)), (1, (0, 100, -99)))
        one, other = (((line,), (), steps, poly),), ((((-1, 100, -99),), (), steps, poly),)
        self.assertIsNone(alike(one, other, 2))
        one, other = (((line,), (), steps[:1], (((1, 1), (1,)),)),), ((((-1, 100, -99),), (), steps[:1], (((1, 1), (1,)),)),)
        self.assertEqual(alike(one, other, 2), (-99, -100))
        # The line is met by whole points far away alone.
        one, other = ((((-7, 100, -99),), (), (), ONE),), ((((-8, 100, -99),), (), (), ONE),)
        self.assertEqual(alike(one, other, 2), (7, 7))
        far = ((((-FAR - 7, 100, -99), (-FAR, 1, 0)), (), (), ONE),), ((((-FAR - 8, 100, -99), (-FAR, 1, 0)), (), (), ONE),)
        told = alike(far[0], far[1], 2)
        self.assertEqual(100 * told[0] - 99 * told[1], FAR + 7)
        self.assertTrue(FAR <= told[0] < FAR + 99)

    def test_thin_cells(self):
        # p (p - 1) (p - 2) (p - 3) is 0 at the four whole p from 0 to 3, though no rule says so; beyond, it is not.
        steps, poly = ((1, (0, 1)), (1, (-1, 1)), (1, (-2, 1)), (1, (-3, 1))), (((1, 1), (1, 1, 1, 1)),)
        for high, wanted in ((2, None), (3, None), (4, (4,)), (FAR, (4,))):
            self.assertEqual(alike(((((0, 1), (high, -1)), (), steps, poly),), (), 1), wanted)
        self.assertEqual(alike((((), (), steps, poly),), (), 1), (-1,))
        # A triangle between three lines that has no whole point, beside one that has.
        rows = ((-1, 3, 0), (-1, 0, 3), (4, -3, -3))
        self.assertIsNone(alike(((rows, (), (), ONE),), (), 2))
        self.assertEqual(alike(((((-1, 3, 0), (-1, 0, 3), (6, -3, -3)), (), (), ONE),), (), 2), (1, 1))

    def test_on_one_rest_alone(self):
        for n, rest, wanted in ((20000, 9999, (9999,)), (20000, 10001, (-9999,)), (20000, 10000, (-10000,)), (24, 12, (-12,)), (24, 11, (11,))):
            one = (((), ((n, (-rest, 1)),), (), ONE),)
            self.assertEqual(alike(one, (), 1), wanted)
            self.assertEqual(alike((((), (), ((n, (-rest, 1)),), LETTER),), (((), (), ((n, (-rest - 1, 1)),), LETTER),), 1), wanted)
        one = (((), ((24, (0, 1, 5)), (24, (-1, 0, 1))), ((1, (0, 1, 0)),), LETTER),)
        self.assertEqual(alike(one, (), 2), searched(one, (), 2, 30))

    def test_far_on_one_rest(self):
        # From FAR on, p by 101 and what it is by 103 part from what a third step tells only on one rest.
        n = 101 * 103
        one = ((((-FAR, 1),), ((101, (7, 1)), (103, (9, 1))), (), ONE),)
        told = alike(one, (), 1)
        self.assertTrue(FAR <= told[0] < FAR + n)
        self.assertEqual(((told[0] + 7) % 101, (told[0] + 9) % 103), (0, 0))

    def test_steps_by_many_numbers(self):
        # Steps by numbers without a common part: their classes together are too many to be gone through.
        primes = (2, 3, 5, 7, 11, 13, 17, 19, 23, 29, 31, 37)
        one = tuple(((), (), ((n, (3, 5)),), LETTER) for n in primes)
        other = tuple(((), (), tuple((n, (3 + n * i, 5)) for i in range(2)), (((1, 2), (0, 1)), ((1, 2), (1, 0)))) for n in primes)
        less_half = added(other, constant((-len(primes), 2)))
        self.assertIsNone(alike(one, less_half, 1))
        self.assertEqual(alike(one, added(less_half, ((((-FAR, 1),), (), (), ONE),)), 1), (FAR,))
        # The sum over all rests by n of (p + rest) by n is p.
        for n in (37, 41):
            told = tuple(((), (), ((n, (rest, 1, 2)),), LETTER) for rest in range(n))
            self.assertIsNone(alike(told, (((), (), ((1, (0, 1, 2)),), LETTER),), 2))

    def test_least_at_the_bounds(self):
        rng = random.Random(644)
        for k, n in ((1, 20000), (2, 24), (3, 1)):
            for _ in range(5):
                terms = []
                for _ in range(4):
                    rows = tuple((rng.randint(-FAR, FAR), *[rng.randint(-100, 100) for _ in range(k)]) for _ in range(rng.randint(0, 2)))
                    steps = tuple((n, tuple(rng.randint(-100, 100) for _ in range(k + 1))) for _ in range(2))
                    terms.append((rows, (), steps, random_poly(rng, 2, 4)))
                cut = []
                for rows, gates, steps, poly in terms:
                    row = tuple(rng.randint(-100, 100) for _ in range(k + 1))
                    other = (-row[0] - 1, *[-entry for entry in row[1:]])
                    cut += [((*rows, row), gates, steps, poly), ((other, *rows), gates, steps[::-1], tuple(sorted((part, e[::-1]) for part, e in poly)))]
                cut = [(*term[:3], tuple(sorted(term[3], key=lambda pair: pair[1]))) for term in cut]
                self.assertIsNone(alike(tuple(terms), tuple(cut), k))
                p = tuple(rng.choice((-1, 1)) * rng.randint(10 ** 6, FAR) for _ in range(k))
                self.assertEqual(alike(tuple(terms), (*cut, *at_points(k, {p: 2})), k), p)

    def test_tallies_of_the_package(self):
        for text in ("for n, m count i, j where 0 <= i and 2 i <= n + j and 3 j <= m - i and j >= 0",
                     "for n, m count i, j where 5 i >= n + 2 j and 6 j <= m - i and j >= 2 i - m and 3 i + 4 j <= 7 n + 5 and i - 5 j <= 9",
                     "for n count i, j, l where i >= 0 and 2 j >= i and 3 l >= j and 5 i + 4 j + 3 l <= 2 n",
                     "for a, b, c count i where a <= i and 3 i <= b + c and not 2 divides (i + c)",
                     "for n count x where some i (some j (0 <= i and i < n and 0 <= j and j < n and x = 3 i + 5 j))"):
            k, d, _, formula = read_room(text)
            # Unknowns moved against one another leave the numbers of points as they are.
            forms = [tuple(int(j == i + 1) for j in range(k + d + 1)) for i in range(k + d)]
            forms[k] = (5, *forms[k][1:])
            if d > 1:
                forms[k] = tuple(a + 2 * b for a, b in zip(forms[k], forms[k + 1]))
            moved = formula_put_in(formula, tuple(forms), k + d)
            one, other = tally_of(k, d, formula), tally_of(k, d, moved)
            self.assertIsNone(alike(one, other, k))
            self.assertIsNone(counts_alike(k, d, formula, moved) if k < 3 else None)
            # Written otherwise: in another sequence, cut, doubled and halved, tidied.
            cut = added(kept(other, ((3, *[1] * k),), ()), kept(other, ((-4, *[-1] * k),), ()))
            self.assertIsNone(alike(one, cut[::-1], k))
            self.assertIsNone(alike(added(one, one), scaled(tidied(cut), (2, 1)), k))
            self.assertIsNone(alike(times(one, one), times(cut, other), k))
            p = (10 ** 12 + 1, -3, 10 ** 15)[:k]
            self.assertEqual(alike(added(one, at_points(k, {p: 1})), other, k), p)
            there = at_points(k, {(40,) * k: 1})
            self.assertEqual(alike(less(one, there), other, k), (40,) * k)

    def test_papers_and_sums(self):
        hall = (2, 2, ((0, 0, 0, 1, 0), (0, 0, 0, 0, 1), (0, 1, 0, -2, -3), (5, 0, 1, -4, 1)))
        k, d, formula = 2, 2, ("and", *[("row", row) for row in hall[2]])
        weight = (((1, 2), (0, 1, 1, 2)), ((3, 1), (1, 0, 0, 0)))
        self.assertIsNone(alike(tally_by(hall, hall_paper(hall)), tally_of(k, d, formula), 2))
        self.assertIsNone(alike(tally_by(hall, hall_paper(hall), weight), weighted_of(k, d, formula, weight), 2))
        # The sum over m of the points at n, m from 0 to 9 has one more unknown.
        held = kept(tally_of(k, d, formula), ((0, 0, 1), (9, 0, -1)), ())
        more = ("and", ("row", (0, 0, 1, 0, 0)), ("row", (9, 0, -1, 0, 0)), formula)
        self.assertIsNone(alike(summed(held, 2, 1), tally_of(1, 3, more), 1))
        self.assertIsNone(alike(put_in_tally(held, ((0, 3), (1, 1)), 1), tally_of(1, 2, formula_put_in(more, ((0, 3, 0, 0), (1, 1, 0, 0), (0, 0, 1, 0), (0, 0, 0, 1)), 3)), 1))


class CountsAlike(unittest.TestCase):
    def test_by_hand(self):
        k, d, _, one = read_room("for n count i where 0 <= i and 2 i <= n")
        _, _, _, other = read_room("for n count i where n < 2 i + 2 and i <= n and n >= 0")
        _, _, _, third = read_room("for n count i where 0 <= i and 2 i <= n and (i < 1000 or n > 2001)")
        self.assertEqual(counts_alike(k, d, one, other), searched(tally_of(k, d, one), tally_of(k, d, other), 1, 20))
        self.assertEqual(counts_alike(k=k, d=d, f=one, g=third), (2000,))
        self.assertIsNone(counts_alike(1, 1, ("or",), ("and", one, ("row", (-1, 0, 0)))))
        self.assertEqual(counts_alike(0, 0, ("and",), ("or",)), ())
        self.assertIsNone(counts_alike(0, 1, read_room("count i where 1 <= i and i <= 3")[3], read_room("count i where 7 <= 2 i and i <= 6")[3]))

    def test_random(self):
        rng = random.Random(645)
        parted = 0
        for _ in range(60):
            k = rng.randint(0, 2)
            d = 1 if k == 2 else rng.randint(0, 2)
            walls = [("row", (rng.randint(0, 3), *[rng.randint(-1, 1) for _ in range(k)], *[sign * (i == j) for i in range(d)])) for j in range(d) for sign in (1, -1)]
            f, g = [("and", *walls, random_formula(rng, k + d, 2, 1 if k < 2 else 0, 2)) for _ in range(2)]
            told = counts_alike(k, d, f, g)
            reach = 6 if k == 2 else 12
            wanted = None
            for p in sorted(product(range(-reach, reach + 1), repeat=k), key=order):
                if wanted is None and order(p)[0] <= reach and count_at(k, d, f, p) != count_at(k, d, g, p):
                    wanted = p
            if wanted is not None:
                parted += 1
                self.assertEqual(told, wanted)
            else:
                self.assertTrue(told is None or order(told)[0] > reach)
        self.assertGreater(parted, 25)

    def test_errors(self):
        fine, endless = ("and", ("row", (0, 1)), ("row", (3, -1))), ("row", (0, 1))
        for value in JUNK:
            for f, g in ((value, fine), (fine, value), (value, endless), (endless, value)):
                with self.assertRaises(NotFormula) as caught:
                    counts_alike(0, 1, f, g)
                self.assertIn(caught.exception.path, ((), (1,)))
        with self.assertRaises(NotFormula) as caught:
            counts_alike(0, 1, ("not", ("row", (0,))), ("and", ("or",), 5))
        self.assertEqual(caught.exception.path, (1, 1))
        with self.assertRaises(NotFormula) as caught:
            counts_alike(0, 1, endless, ("and", ("or",), 5))
        self.assertEqual(caught.exception.path, (2,))
        for f, g in ((fine, endless), (endless, fine), (endless, endless)):
            self.assertRaises(NotBounded, counts_alike, 0, 1, f, g)


if __name__ == "__main__":
    unittest.main()
