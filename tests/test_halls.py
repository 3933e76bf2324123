import random
import unittest

from pointtally.errors import NotHall
from pointtally.halls import conditions, hall_at, hall_breach, in_hall, need_hall
from tests.tools import JUNK, at, digits, random_form


class Breach(unittest.TestCase):
    def check(self, value, place):
        self.assertEqual(hall_breach(value), place)
        if place is None:
            self.assertIsNone(need_hall(value))
        else:
            with self.assertRaises(NotHall) as caught:
                need_hall(value)
            self.assertEqual(caught.exception.place, place)

    def test_halls(self):
        for k in range(4):
            for d in range(7):
                self.check((k, d, ()), None)
                self.check((k, d, ((0,) * (k + d + 1),) * 16), None)
        self.check((0, 0, ((10 ** 400,),)), None)

    def test_parts(self):
        for value in (None, (), (0, 0), (0, 0, (), ()), [0, 0, ()], "abc", 3):
            self.check(value, 0)
        for k in (-1, 4, True, False, None, 1.0, "1", (1,)):
            self.check((k, 0, ()), 1)
            self.check((k, None, None), 1)
        for d in (-1, 7, True, False, None, 1.0, "1"):
            self.check((3, d, ()), 2)
            self.check((0, d, 5), 2)
        for rows in (None, [], 0, {}, "", ((0,),) * 17, (None,) * 17):
            self.check((0, 0, rows), 3)

    def test_rows(self):
        good = ((0, 1, 2),) * 16
        for place in range(16):
            for wrong in ((0, 1), (0, 1, 2, 3), [0, 1, 2], None, (0, True, 2), (0, 1, 2.0), 0):
                self.check((1, 1, good[:place] + (wrong,) + good[place + 1:]), 4 + place)
                self.check((1, 1, good[:place] + (wrong,) + (None,) * (15 - place)), 4 + place)

    def test_junk(self):
        for value in JUNK:
            self.check(value, {"(0, 0, ())": None, "(0, 0, [])": 3}.get(repr(value), 0))

    def test_keywords(self):
        self.assertIsNone(hall_breach(value=(0, 0, ())))
        self.assertIsNone(need_hall(value=(0, 0, ())))


class Points(unittest.TestCase):
    def test_by_hand(self):
        hall = (1, 2, ((0, 0, 1, 0), (5, 1, 0, 0), (3, 1, -1, -1), (-1, 0, 0, 0)))
        self.assertEqual(conditions(hall), ((5, 1), (-1, 0)))
        self.assertIs(in_hall(hall, (0,), (1, 1)), False)
        hall = (1, 2, hall[2][:3])
        self.assertIs(in_hall(hall, (0,), (1, 1)), True)
        self.assertIs(in_hall(hall, (-5,), (0, -2)), True)
        self.assertIs(in_hall(hall, (-6,), (0, -9)), False)
        self.assertIs(in_hall(hall, (0,), (-1, 0)), False)
        self.assertEqual(hall_at(hall, (7,)), (0, 2, ((0, 1, 0), (12, 0, 0), (10, -1, -1))))

    def test_edges(self):
        self.assertEqual(conditions((2, 0, ((1, 2, 3), (0, 0, 0)))), ((1, 2, 3), (0, 0, 0)))
        self.assertEqual(conditions((0, 2, ((1, 2, 3), (4, 0, 0)))), ((4,),))
        self.assertEqual(conditions((0, 0, ())), ())
        self.assertIs(in_hall((0, 0, ()), (), ()), True)
        self.assertIs(in_hall((0, 0, ((-1,),)), (), ()), False)
        self.assertIs(in_hall((0, 0, ((0,),)), (), ()), True)
        self.assertEqual(hall_at((0, 1, ((1, 2),)), ()), (0, 1, ((1, 2),)))
        self.assertEqual(hall_at((2, 0, ((1, 2, 3),)), (1, 1)), (0, 0, ((6,),)))

    def test_keywords(self):
        self.assertEqual(conditions(hall=(0, 0, ())), ())
        self.assertIs(in_hall(hall=(0, 0, ()), p=(), x=()), True)
        self.assertEqual(hall_at(hall=(0, 0, ()), p=()), (0, 0, ()))

    def test_random(self):
        rng = random.Random(11)
        for _ in range(300):
            k, d = rng.randint(0, 3), rng.randint(0, 6)
            rows = tuple(random_form(rng, k + d, rng.choice((2, 10 ** 30))) for _ in range(rng.randint(0, 5)))
            p = tuple(digits(rng, rng.choice((1, 40))) for _ in range(k))
            x = tuple(digits(rng, rng.choice((1, 40))) for _ in range(d))
            held = all(at(row, p + x) >= 0 for row in rows)
            self.assertEqual(in_hall((k, d, rows), p, x), held)
            here = hall_at((k, d, rows), p)
            self.assertIsNone(hall_breach(here))
            self.assertEqual(in_hall(here, (), x), held)
