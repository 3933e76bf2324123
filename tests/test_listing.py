import random
import unittest

from pointtally.errors import TooMany
from pointtally.listing import holds_within, listed
from tests.tools import cube, random_formula, tried


class HoldsWithin(unittest.TestCase):
    def test_by_hand(self):
        self.assertIs(holds_within(("row", (0, 1)), (0,), 0), True)
        self.assertIs(holds_within(("row", (-1, 1)), (0,), 0), False)
        self.assertIs(holds_within(("divides", 3, (1, 1)), (-4,), 0), True)
        self.assertIs(holds_within(("divides", 3, (1, 1)), (-3,), 0), False)
        self.assertIs(holds_within(("and",), (), 0), True)
        self.assertIs(holds_within(("or",), (), 0), False)
        self.assertIs(holds_within(("not", ("or",)), (), 0), True)
        self.assertIs(holds_within(formula=("and",), t=(), reach=0), True)

    def test_reach(self):
        twice = ("some", ("and", ("row", (0, 1, -2)), ("row", (0, -1, 2))))
        self.assertIs(holds_within(twice, (6,), 2), False)
        self.assertIs(holds_within(twice, (6,), 3), True)
        self.assertIs(holds_within(twice, (-6,), 3), True)
        self.assertIs(holds_within(twice, (7,), 100), False)
        self.assertIs(holds_within(twice, (0,), 0), True)
        self.assertIs(holds_within(("not", twice), (6,), 2), True)

    def test_random(self):
        rng = random.Random(12)
        for _ in range(500):
            m = rng.randint(0, 3)
            formula = random_formula(rng, m, 4, 2)
            for _ in range(5):
                t = tuple(rng.randint(-9, 9) for _ in range(m))
                self.assertEqual(holds_within(formula, t, 2), tried(formula, t, 2))


class Listed(unittest.TestCase):
    def test_by_hand(self):
        triangle = ("and", ("row", (0, 0, 1, 0)), ("row", (0, 0, 0, 1)), ("row", (0, 1, -1, -1)))
        self.assertEqual(listed(1, 2, triangle, (1,), -5, 5, 0), ((0, 0), (0, 1), (1, 0)))
        self.assertEqual(listed(1, 2, triangle, (-1,), -5, 5, 0), ())
        self.assertEqual(listed(0, 1, ("divides", 3, (1, 1)), (), -4, 5, 0), ((-4,), (-1,), (2,), (5,)))
        self.assertEqual(listed(0, 0, ("and",), (), 1, 1, 0), ((),))
        self.assertEqual(listed(0, 0, ("or",), (), 1, 9, 0), ())
        self.assertEqual(listed(1, 0, ("row", (0, 1)), (3,), 1, 9, 0), ((),))
        self.assertEqual(listed(k=0, d=1, formula=("and",), p=(), low=7, high=7, reach=0), ((7,),))

    def test_random(self):
        rng = random.Random(13)
        for _ in range(400):
            k, d = rng.randint(0, 2), rng.randint(0, 3)
            formula = random_formula(rng, k + d, 4, 2)
            p = tuple(rng.randint(-6, 6) for _ in range(k))
            low = rng.randint(-4, 2)
            high = low + rng.randint(0, 4)
            reach = rng.randint(0, 2)
            told = tuple(x for x in cube(d, low, high) if tried(formula, p + x, reach))
            self.assertEqual(listed(k, d, formula, p, low, high, reach), told)

    def test_wide_lines(self):
        rng = random.Random(14)
        for _ in range(100):
            formula = random_formula(rng, 1, 3, 1, 60)
            told = tuple((x,) for x in range(-150, 151) if tried(formula, (x,), 3))
            self.assertEqual(listed(0, 1, formula, (), -150, 150, 3), told)

    def test_limit(self):
        line = ("and", ("row", (0, 0, 1)), ("row", (-1, 1, -1)))
        self.assertEqual(len(listed(1, 1, line, (10000,), -5, 10005, 0)), 10000)
        for n in (10001, 10 ** 6):
            with self.assertRaises(TooMany) as caught:
                listed(1, 1, line, (n,), 0, 999999, 0)
            self.assertEqual(caught.exception.limit, 10000)
        self.assertEqual(len(listed(0, 2, ("and",), (), 1, 100, 0)), 10000)
        more = ("or", ("row", (100, -1, 0)), ("and", ("row", (-101, 1, 0)), ("row", (1, 0, -1))))
        self.assertEqual(len(listed(0, 2, ("and", ("row", (100, -1, 0)), ("row", (100, 0, -1))), (), 1, 101, 0)), 10000)
        with self.assertRaises(TooMany):
            listed(0, 2, ("or", more, ("and",)), (), 1, 101, 0)
        with self.assertRaises(TooMany):
            listed(0, 2, ("and", ("row", (100, 0, -1)), ("or", ("row", (100, -1, 0)), ("row", (1, 0, -1)))), (), 1, 101, 0)

    def test_great_boxes(self):
        far = 10 ** 40
        self.assertEqual(listed(1, 1, ("row", (-5, -1, 1)), (far,), far, far + 10, 0), tuple((far + i,) for i in range(5, 11)))
        self.assertEqual(listed(0, 6, ("row", (-53, 1, 1, 1, 1, 1, 1)), (), 0, 9, 0)[0], (8, 9, 9, 9, 9, 9))
        corner = ("and", ("row", (-998, 1, 0)), ("row", (-1997, 1, 1)), ("divides", 12, (3, 3, 3)))
        self.assertEqual(listed(0, 2, corner, (), 0, 999, 0), tuple(x for x in ((998, 999), (999, 998), (999, 999)) if sum(x) % 4 == 3))
        self.assertEqual(listed(0, 1, ("divides", 7, (0, 1)), (), -3, 0, 0), ((0,),))
