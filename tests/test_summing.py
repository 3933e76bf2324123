import random
import unittest
from fractions import Fraction
from itertools import product

from pointtally.counting import tally_of, weighted_of
from pointtally.errors import NotBounded
from pointtally.formtexts import read_room
from pointtally.summing import summed
from pointtally.tallies import added, kept, tally_breach
from tests.oracles import random_poly, tally_at
from tests.tools import random_form

ONE = (((1, 1), ()),)


def total(tally, p, many, reach):
    """Add the values up over all integers up to a reach."""
    return sum(tally_at(tally, (*p, *q)) for q in product(range(-reach, reach + 1), repeat=many))


def random_tally(rng, k, many, terms=2):
    """Return a random tally whose rows hold the last many letters within 9 of 0 where the others are within 3."""
    found = []
    for _ in range(rng.randint(0, terms)):
        rows = []
        for j in range(k - many, k):
            for sign in (1, -1):
                front = [rng.randint(-1, 1) for _ in range(k - many)]
                rows.append((rng.randint(0, 3), *front, *[sign * (i == j) for i in range(k - many, k)]))
        rows += [random_form(rng, k, 3) for _ in range(rng.randint(0, 1))]
        many_above = rng.randint(0, 2)
        sizes = [rng.randint(2, 6) for _ in range(many_above)] + [1] * rng.randint(0, 1)
        cut = rng.randint(0, many_above)
        gates = tuple((n, random_form(rng, k, 4)) for n in sizes[:cut])
        steps = tuple((n, random_form(rng, k, 4)) for n in sizes[cut:])
        found.append((tuple(rows), gates, steps, random_poly(rng, len(steps), rng.randint(0, 4))))
    return tuple(found)


class Summed(unittest.TestCase):
    def test_by_hand(self):
        # The sum of q by 2 over q from 0 to p.
        term = (((0, 0, 1), (0, 1, -1)), (), ((2, (0, 0, 1)),), (((1, 1), (1,)),))
        told = summed(tally=(term,), k=2, many=1)
        self.assertIsNone(tally_breach(told, 1))
        for p in (-10 ** 40, -1, 0, 1, 2, 7, 10 ** 40, 10 ** 40 + 1):
            self.assertEqual(tally_at(told, (p,)), (p // 2) * ((p + 1) // 2) if p > 0 else 0)
        self.assertEqual(summed((), 3, 2), ())

    def test_random(self):
        rng = random.Random(631)
        filled = 0
        for _ in range(70):
            k = rng.choice((1, 1, 2, 2, 3))
            many = rng.randint(1, min(k, 2))
            tally = random_tally(rng, k, many)
            told = summed(tally, k, many)
            self.assertIsNone(tally_breach(told, k - many))
            for _ in range(3):
                p = tuple(rng.randint(-3, 3) for _ in range(k - many))
                wanted = total(tally, p, many, 9)
                filled += wanted != 0
                self.assertEqual(tally_at(told, p), wanted, (tally, k, many, p))
        self.assertGreater(filled, 25)

    def test_all_parameters(self):
        tally = ((((2, 1, 0, 0), (2, -1, 0, 0), (2, 0, 1, 0), (2, 0, -1, 0), (1, 1, 1, 1), (1, -1, -1, -1)), ((3, (0, 1, 2, 0)),),
                  ((2, (1, 1, 1, 1)), (1, (0, 0, 0, 1))), (((1, 3), (1, 1)), ((2, 1), (2, 0)))),)
        told = summed(tally, 3, 3)
        self.assertIsNone(tally_breach(told, 0))
        self.assertEqual(tally_at(told, ()), total(tally, (), 3, 6))
        for many in (1, 2):
            for p in product(range(-3, 4), repeat=3 - many):
                self.assertEqual(tally_at(summed(tally, 3, many), p), total(tally, p, many, 9))

    def test_tallies_of_the_package(self):
        for text in ("for n, m count i, j where 0 <= i and 2 i <= n + j and 3 j <= m - i and j >= 0",
                     "for n, m count i where 5 i >= n and 7 i <= n + m", "for n count i, j where 0 <= i and 7 i + 5 j <= n and j >= 0",
                     "for n, m count i where some j (3 j <= i and i <= 5 j - n and 0 <= j and 2 j + i <= m)"):
            k, d, _, formula = read_room(text)
            tally = tally_of(k, d, formula)
            weighted = weighted_of(k, d, formula, (((1, 2), (1, *[0] * (k - 1), 2, *[0] * (d - 1))),))
            low, high = (2, *[0] * (k - 1), 1), (8, *[0] * (k - 1), -1)
            for cut in (kept(tally, (low, high), ()), kept(weighted, (low, high), ((3, low),))):
                told = summed(cut, k, 1)
                for p in product(range(-4, 13, 4), repeat=k - 1):
                    self.assertEqual(tally_at(told, p), sum(tally_at(cut, (*p, q)) for q in range(-2, 9)))

    def test_great_numbers(self):
        # Steps by far more than there is room for classes.
        rng = random.Random(632)
        for _ in range(2):
            n, m = rng.randint(500, 2000), rng.randint(500, 2000)
            rows = ((0, 0, 1), (30, 0, -1), (0, 1, 0), (40, -1, 0))
            steps = ((n, random_form(rng, 2, 900)), (m, (7, 301, 0)))
            tally = ((rows, (), steps, random_poly(rng, 2, 2)),)
            told = summed(tally, 2, 1)
            for p in (-1, 0, 11, 40):
                self.assertEqual(tally_at(told, (p,)), sum(tally_at(tally, (p, q)) for q in range(31)))
            told = summed(tally, 2, 2)
            self.assertEqual(tally_at(told, ()), sum(tally_at(tally, (p, q)) for p in range(41) for q in range(31)))

    def test_twice(self):
        tally = random_tally(random.Random(633), 2, 2)
        once = summed(tally, 2, 1)
        try:
            both = summed(once, 1, 1)
        except NotBounded:
            return
        self.assertEqual(tally_at(both, ()), tally_at(summed(tally, 2, 2), ()))


class Bounded(unittest.TestCase):
    def test_edge(self):
        low, high = (0, 0, 1), (0, 1, -1)
        fine = ((low, high), (), (), ONE)
        for rows, gates, poly, goes_on in (
            ((low,), (), ONE, True), ((low, (5, 0, 0)), (), ONE, True), ((), (), ONE, True),
            # What is 0 everywhere, and rows and gates that never hold together, go on nowhere.
            ((low,), (), (), False), ((low, (-1, 0, 0)), (), ONE, False), ((low, (-5, 2, 0), (5, -2, 0)), (), ONE, False),
            ((low,), ((2, (0, 2, 0)), (2, (1, 4, 2))), ONE, False), ((low, (0, 1, 0), (1, -1, 0)), ((3, (1, 1, 0)),), ONE, False),
            ((low, (0, 1, 0), (2, -1, 0)), ((3, (1, 1, 0)),), ONE, True), ((low, (-1, 2, -2), (1, -2, 2)), (), ONE, False),
            # It counts how the tally is written: here the sum at each p is that of finitely many numbers.
            ((low, (0, -1, 1), (0, 1, 1)), (), ONE, True), ((low, (4, 0, -1)), (), ONE, False),
        ):
            for tally in (((rows, gates, (), poly),), (fine, (rows, gates, (), poly)), ((rows, gates, (), poly), fine)):
                if goes_on:
                    self.assertRaises(NotBounded, summed, tally, 2, 1)
                else:
                    told = summed(tally, 2, 1)
                    for p in range(-3, 8):
                        self.assertEqual(tally_at(told, (p,)), sum(tally_at(tally, (p, q)) for q in range(-30, 31)))

    def test_takes_itself_away(self):
        # Both terms go on, and their sum is 0: still it goes on, as it is written.
        one, other = (((0, 1),), (), (), ONE), (((0, 1),), (), (), (((-1, 1), ()),))
        self.assertRaises(NotBounded, summed, (one, other), 1, 1)
        self.assertEqual(tally_at(summed(((((0, 1), (0, -1)), (), (), ONE),), 1, 1), ()), 1)

    def test_two_letters(self):
        rows = ((0, 0, 1, 0), (0, 0, 0, 1), (0, 1, -1, -1))
        told = summed(((rows, (), (), ONE),), 3, 2)
        self.assertEqual([tally_at(told, (p,)) for p in (-1, 0, 1, 2, 3)], [0, 1, 3, 6, 10])
        self.assertRaises(NotBounded, summed, ((rows[:2], (), (), ONE),), 3, 2)
        # Over the last one alone it ends, over both it goes on.
        slab = (((0, 1, -1, 1), (0, 1, 1, -1)), (), (), ONE)
        self.assertEqual([tally_at(summed((slab,), 3, 1), (p, 5)) for p in (-1, 0, 2)], [0, 1, 5])
        self.assertRaises(NotBounded, summed, (slab,), 3, 2)
        self.assertEqual(tally_at(added(told, ()), (2,)), Fraction(6))


if __name__ == "__main__":
    unittest.main()
