import random
import unittest
from math import gcd

from pointtally.errors import NotForm
from pointtally.forms import form_sum, form_times, form_value, is_form, lowered, need_form, put_in
from tests.tools import JUNK, at, cube, deep_nest, digits, random_form


class IsForm(unittest.TestCase):
    def test_forms(self):
        for m in range(10):
            self.assertIs(is_form((0,) * (m + 1), m), True)
            self.assertIs(is_form((-1,) + (10 ** 400,) * m, m), True)
            self.assertIsNone(need_form((0,) * (m + 1), m))

    def test_wrong_lengths_and_kinds(self):
        for m in range(10):
            for value in ((), (0,) * m, (0,) * (m + 2), [0] * (m + 1), None, 0, "0" * (m + 1), {}, deep_nest(200)):
                if value != (0,) * (m + 1):
                    with self.subTest(m=m, value=value):
                        self.assertIs(is_form(value, m), False)
                        if not (isinstance(value, tuple) and len(value) == m + 1):
                            self.assertEqual(self.place(value, m), -1)

    def test_junk(self):
        for value in JUNK:
            for m in (0, 1, 2, 9):
                told = is_form(value, m)
                self.assertIsInstance(told, bool)
                self.assertEqual(told, self.place(value, m) is None)

    def test_first_wrong_entry(self):
        for m in range(10):
            for place in range(m + 1):
                for wrong in (True, False, None, 1.0, "1", (1,), [1]):
                    value = [0] * (m + 1)
                    value[place] = wrong
                    self.assertIs(is_form(tuple(value), m), False)
                    self.assertEqual(self.place(tuple(value), m), place)
                    value[m] = None
                    self.assertEqual(self.place(tuple(value), m), place)

    def place(self, value, m):
        try:
            self.assertIsNone(need_form(value, m))
        except NotForm as e:
            return e.place
        return None


class Values(unittest.TestCase):
    def test_by_hand(self):
        self.assertEqual(form_value((3, 2, -1), (10, 4)), 19)
        self.assertEqual(form_value((7,), ()), 7)
        self.assertEqual(form_sum((1, 2), (3, -5)), (4, -3))
        self.assertEqual(form_times((1, -2, 0), -3), (-3, 6, 0))
        self.assertEqual(form_times((1, -2), 0), (0, 0))
        self.assertEqual(put_in((1, 2, 3), ((0, 1), (5, -1)), 1), (16, -1))
        self.assertEqual(put_in((4,), (), 0), (4,))
        self.assertEqual(put_in((4,), (), 3), (4, 0, 0, 0))
        self.assertEqual(put_in((1, 2), ((5,),), 0), (11,))

    def test_keywords(self):
        self.assertEqual(form_value(form=(1, 2), t=(3,)), 7)
        self.assertEqual(form_sum(one=(1,), other=(2,)), (3,))
        self.assertEqual(form_times(form=(1,), n=2), (2,))
        self.assertEqual(put_in(form=(1, 2), forms=((3, 1),), n=1), (7, 2))
        self.assertIs(is_form(value=(1,), m=0), True)
        self.assertIsNone(need_form(value=(1,), m=0))
        self.assertEqual(lowered(form=(1, 2)), (0, 1))

    def test_random(self):
        rng = random.Random(1)
        for _ in range(300):
            m, n = rng.randint(0, 9), rng.randint(0, 9)
            one, other = random_form(rng, m, 10 ** 45), random_form(rng, m, 10 ** 45)
            t = tuple(digits(rng, 40) for _ in range(m))
            self.assertEqual(form_value(one, t), at(one, t))
            self.assertEqual(form_value(form_sum(one, other), t), at(one, t) + at(other, t))
            many = rng.randint(-5, 5)
            self.assertEqual(form_value(form_times(one, many), t), many * at(one, t))
            forms = tuple(random_form(rng, n) for _ in range(m))
            u = tuple(digits(rng, 40) for _ in range(n))
            inner = put_in(one, forms, n)
            self.assertIs(is_form(inner, n), True)
            self.assertEqual(at(inner, u), at(one, tuple(int(at(form, u)) for form in forms)))


class Lowered(unittest.TestCase):
    def test_by_hand(self):
        self.assertEqual(lowered((7, 4, -6)), (3, 2, -3))
        self.assertEqual(lowered((-7, 4, -6)), (-4, 2, -3))
        self.assertEqual(lowered((-1, 2)), (-1, 1))
        self.assertEqual(lowered((5, 0, 0)), (5, 0, 0))
        self.assertEqual(lowered((-5,)), (-5,))
        self.assertEqual(lowered((5, -5)), (1, -1))
        self.assertEqual(lowered((5, 0, 3)), (1, 0, 1))

    def test_same_signs(self):
        rng = random.Random(2)
        for _ in range(200):
            m = rng.randint(0, 3)
            form = random_form(rng, m, 8)
            low = lowered(form)
            self.assertIs(is_form(low, m), True)
            self.assertIn(gcd(*low[1:]), (0, 1))
            for t in cube(m, -4, 4):
                self.assertEqual(at(form, t) >= 0, at(low, t) >= 0)
