import random
import unittest
from fractions import Fraction

from pointtally.errors import NotTally
from pointtally.tallies import (
    added, constant, kept, less, need_tally, put_in_tally, scaled, tally_breach, tidied, times, value,
)
from tests.oracles import pair, random_poly, tally_at, value_of
from tests.tools import JUNK, random_form, replaced_everywhere

TERM = (((0, 1), (9, -1)), ((2, (1, 1)),), ((3, (0, 1)), (1, (0, 1))), (((1, 2), (0, 1)), ((-1, 1), (1, 0))))


def random_tally(rng, k, most=4):
    terms = []
    for _ in range(rng.randint(0, most)):
        rows = tuple(random_form(rng, k, 4) for _ in range(rng.randint(0, 3)))
        gates = tuple((rng.randint(2, 6), random_form(rng, k, 4)) for _ in range(rng.randint(0, 2)))
        steps = tuple((rng.randint(1, 6), random_form(rng, k, 4)) for _ in range(rng.randint(0, 3)))
        terms.append((rows, gates, steps, random_poly(rng, len(steps), 3)))
    # Terms under alike conditions are what tidied can put together.
    if terms and rng.randint(0, 1):
        rows, gates, _, _ = rng.choice(terms)
        _, _, steps, poly = rng.choice(terms)
        terms.append((rows, gates, steps, poly))
    return tuple(terms)


def some_points(rng, k, many=8):
    return [tuple(rng.choice((rng.randint(-6, 6), rng.randint(-10 ** 40, 10 ** 40))) for _ in range(k)) for _ in range(many)]


class Breach(unittest.TestCase):
    def test_right(self):
        for tally, k in (((), 0), ((), 3), ((TERM,), 1), ((TERM, TERM), 1), ((((), (), (), ()),), 2), ((((), (), (), (((1, 1), ()),)),), 0)):
            self.assertIsNone(tally_breach(tally, k))
            self.assertIsNone(need_tally(tally, k))
        self.assertIsNone(tally_breach(value=(TERM,), k=1))
        self.assertIsNone(need_tally(value=(TERM,), k=1))

    def test_wrong(self):
        rows, gates, steps, poly = TERM
        bad = ((rows, gates, steps), (rows, gates, steps, poly, ()), [rows, gates, steps, poly], (list(rows), gates, steps, poly),
               (rows, list(gates), steps, poly), (rows, gates, list(steps), poly), (rows, gates, steps, list(poly)),
               (((0, 1, 2),), gates, steps, poly), (((0, True),), gates, steps, poly), (rows, ((1, (1, 1)),), steps, poly),
               (rows, ((2, (1,)),), steps, poly), (rows, ((2, (1, 1), 0),), steps, poly), (rows, gates, ((0, (0, 1)), steps[1]), poly),
               (rows, gates, steps[:1], poly), (rows, gates, steps, poly[::-1]), (rows, gates, steps, (((2, 4), (0, 1)),)),
               (rows, ((True, (1, 1)),), steps, poly), (rows, gates, steps, (((0, 1), (0, 1)),)), None, (), 5)
        for term in bad:
            for place in (0, 1, 2):
                tally = (TERM,) * place + (term, None)
                self.assertEqual(tally_breach(tally, 1), place, term)
                with self.assertRaises(NotTally) as caught:
                    need_tally(tally, 1)
                self.assertEqual(caught.exception.place, place)
        for other in JUNK:
            told = -1 if type(other) is not tuple else 0 if other else None
            self.assertEqual(tally_breach(other, 0), told)
        self.assertEqual(tally_breach((TERM,), 2), 0)

    def test_every_place(self):
        for spoiled in replaced_everywhere((TERM,)):
            told = tally_breach(spoiled, 1)
            if told is None:
                tally_at(spoiled, (3,))


class Values(unittest.TestCase):
    def test_by_hand(self):
        self.assertEqual(value((TERM,), (7,)), (7 - 4, 2))
        self.assertEqual([value((TERM,), (p,)) for p in (6, 11, -1)], [(0, 1)] * 3)
        self.assertEqual(value(tally=(TERM, TERM), p=(7,)), (3, 1))
        self.assertEqual(value((), (1, 2, 3)), (0, 1))
        self.assertEqual(value((((), (), ((2, (-3,)),), (((1, 1), (2,)),)),), ()), (4, 1))

    def test_random(self):
        rng = random.Random(611)
        for _ in range(200):
            k = rng.randint(0, 3)
            one, other = random_tally(rng, k), random_tally(rng, k)
            part = Fraction(rng.randint(-5, 5), rng.randint(1, 4))
            rows = tuple(random_form(rng, k, 4) for _ in range(rng.randint(0, 2)))
            gates = tuple((rng.randint(2, 5), random_form(rng, k, 4)) for _ in range(rng.randint(0, 2)))
            made = (added(one, other), less(one, other), times(one, other), scaled(one, pair(part)), constant(pair(part)),
                    kept(one, rows, gates), tidied(one))
            for told in made:
                self.assertIsNone(tally_breach(told, k))
            self.assertLessEqual(len(tidied(one)), len(one))
            for p in some_points(rng, k):
                a, b = tally_at(one, p), tally_at(other, p)
                self.assertEqual(value(one, p), pair(a))
                there = all(value_of(row, p) >= 0 for row in rows) and all(value_of(form, p) % n == 0 for n, form in gates)
                self.assertEqual([tally_at(told, p) for told in made], [a + b, a - b, a * b, a * part, part, a if there else 0, a])

    def test_put_in(self):
        rng = random.Random(612)
        for _ in range(120):
            k, n = rng.randint(0, 3), rng.randint(0, 3)
            tally, forms = random_tally(rng, k), tuple(random_form(rng, n, 4) for _ in range(k))
            told = put_in_tally(tally, forms, n)
            self.assertIsNone(tally_breach(told, n))
            for q in some_points(rng, n):
                self.assertEqual(tally_at(told, q), tally_at(tally, tuple(value_of(form, q) for form in forms)))
        self.assertEqual(put_in_tally(tally=(), forms=((1, 2),), n=1), ())

    def test_keywords(self):
        one = (TERM,)
        self.assertEqual(added(one=one, other=()), added(one, ()))
        self.assertEqual(less(one=one, other=one), less(one, one))
        self.assertEqual(times(one=one, other=one), times(one, one))
        self.assertEqual(scaled(tally=one, fraction=(1, 3)), scaled(one, (1, 3)))
        self.assertEqual(constant(fraction=(1, 3)), constant((1, 3)))
        self.assertEqual(kept(tally=one, rows=((1, 1),), gates=()), kept(one, ((1, 1),), ()))
        self.assertEqual(tidied(tally=one), tidied(one))

    def test_constant(self):
        for k in range(4):
            for part in ((0, 1), (-7, 3)):
                told = constant(part)
                self.assertIsNone(tally_breach(told, k))
                self.assertEqual(value(told, (5,) * k), part)

    def test_tidied(self):
        # Both are 0 where p is below 0; their sum is p from 0 on.
        half = (((0, 1),), (), ((2, (0, 1)),), (((1, 1), (1,)),))
        other = (((0, 2),), (), ((2, (1, 1)),), (((1, 1), (1,)),))
        self.assertEqual(len(tidied((half, other))), 1)
        self.assertEqual(tidied(()), ())
        self.assertEqual(tidied(((((0, 1), (-1, -1)), (), (), (((1, 1), ()),)),)), ())
        self.assertEqual(tidied((((), ((2, (0, 1)), (2, (1, 1))), (), (((1, 1), ()),)),)), ())
        self.assertEqual(tidied((((), (), (), ()),)), ())
        self.assertEqual(tidied((half, (*half[:3], (((-1, 1), (1,)),)))), ())
        self.assertEqual(tally_at(tidied(((((5,), (0,)), ((2, (4,)),), (), (((1, 1), ()),)),)), ()), 1)


if __name__ == "__main__":
    unittest.main()
