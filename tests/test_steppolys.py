import random
import unittest
from fractions import Fraction

from pointtally.errors import NotFit
from pointtally.steppolys import is_plain, is_step_poly, normal, on_class, plus, put_in, raised, scaled, times, value_at
from tests.oracles import is_poly, pair, poly_at, random_poly, step_poly_at, value_of
from tests.tools import JUNK, replaced_everywhere

ONE = (((1, 1), ()),)


def random_step_poly(rng, k, steps=3, degree=3, most=6):
    many = rng.randint(0, steps)
    told = tuple((rng.randint(1, most), tuple(rng.randint(-9, 9) for _ in range(k + 1))) for _ in range(many))
    return (told, random_poly(rng, many, degree))


def some_points(rng, k, many=12):
    return [tuple(rng.choice((rng.randint(-20, 20), rng.randint(-10 ** 40, 10 ** 40))) for _ in range(k)) for _ in range(many)]


def is_normal(k, sp):
    """Tell whether a step polynomial is written as normal writes it."""
    steps, poly = sp
    if list(steps) != sorted(set(steps)) or not is_poly(poly, len(steps)):
        return False
    for i, (n, form) in enumerate(steps):
        if not any(exponents[i] for _, exponents in poly) or len(form) != k + 1:
            return False
        if n == 1:
            if form[0] or sorted(form[1:]) != [0] * (k - 1) + [1]:
                return False
        elif min(form) < 0 or max(form) >= n or not any(form[1:]):
            return False
        elif any(all(entry % part == 0 for entry in (n, *form[1:])) for part in range(2, n + 1)):
            return False
    return True


class Kinds(unittest.TestCase):
    def test_is_plain(self):
        good = (((-1, 2), (0, 3)), ((5, 1), (1, 0)))
        self.assertIs(is_plain(2, good), True)
        self.assertIs(is_plain(j=0, value=ONE), True)
        self.assertIs(is_plain(0, ()), True)
        self.assertIs(is_plain(7, ()), True)
        for bad in ((((1, 2), (1, 0)), ((1, 2), (0, 3))), (((1, 2), (1, 0)), ((1, 3), (1, 0))), (((2, 4), (1, 0)),), (((0, 1), (1, 0)),),
                    (((1, -2), (1, 0)),), (((1, 0), (1, 0)),), (((1, 2), (1,)),), (((1, 2), (1, -1)),), (((1, 2), (1, 0, 0)),),
                    (((1, 2), (True, 0)),), (((True, 2), (1, 0)),), (((1, 2), [1, 0]),), ([(1, 2), (1, 0)],), [((1, 2), (1, 0))],
                    (((1, 2), (1, 0), 0),), ((1, (1, 0)),)):
            self.assertIs(is_plain(2, bad), False, bad)
        for value in JUNK:
            self.assertIs(is_plain(2, value), value == () and type(value) is tuple)
        for value in replaced_everywhere(good):
            if value not in ((), good[:1], good[1:], ((good[0][0], (0, 3)),)):
                self.assertFalse(is_plain(2, value) and not is_poly(value, 2), value)

    def test_is_step_poly(self):
        good = (((2, (1, 0)), (1, (-3, 4))), (((1, 2), (0, 1)),))
        self.assertIs(is_step_poly(1, good), True)
        self.assertIs(is_step_poly(k=3, value=((), ONE)), True)
        self.assertIs(is_step_poly(0, ((), ())), True)
        self.assertIs(is_step_poly(0, (((5, (7,)),), ())), True)
        self.assertIs(is_step_poly(2, good), False)
        for steps in (((0, (1, 0)),), ((-2, (1, 0)),), ((2, (1,)),), ((2, [1, 0]),), ([2, (1, 0)],), [(2, (1, 0))], ((2, (1, 0), 0),),
                      ((True, (1, 0)),), ((2, (1, True)),), (2, (1, 0)), None):
            self.assertIs(is_step_poly(1, (steps, ())), False, steps)
        for bad in (good[0], good[1], (*good, ()), list(good), (good[0][:1], good[1]), (good[0], (((1, 2), (0,)),)), (good[0], [])):
            self.assertIs(is_step_poly(1, bad), False)
        for value in JUNK:
            self.assertIs(is_step_poly(1, value), value == ((), ()))


class Values(unittest.TestCase):
    def test_by_hand(self):
        sp = (((2, (1, 3)), (1, (0, 1))), (((1, 2), (0, 0)), ((-1, 1), (1, 2))))
        self.assertEqual(value_at(1, sp, (3,)), (1 - 2 * 5 * 9, 2))
        self.assertEqual(value_at(1, sp, (-1,)), (3, 2))
        self.assertEqual(value_at(k=0, sp=((), ONE), p=()), (1, 1))
        self.assertEqual(value_at(2, ((), ()), (1, 2)), (0, 1))
        self.assertEqual(value_at(0, (((3, (-7,)),), (((1, 1), (2,)),)), ()), (9, 1))

    def test_random(self):
        rng = random.Random(541)
        for _ in range(100):
            k = rng.randint(0, 3)
            sp = random_step_poly(rng, k)
            for p in some_points(rng, k, 5):
                self.assertEqual(value_at(k, sp, p), pair(step_poly_at(sp, p)))


class Normal(unittest.TestCase):
    def test_by_hand(self):
        half, p = (2, (0, 1)), (1, (0, 1))
        self.assertEqual(normal(1, ((half,), (((1, 1), (1,)),))), ((half,), (((1, 1), (1,)),)))
        # (3 + 7 p) by 2 is 1 + 3 p + (1 + p) by 2.
        told = (((1, (0, 1)), (2, (1, 1))), (((1, 1), (0, 0)), ((1, 1), (0, 1)), ((3, 1), (1, 0))))
        self.assertEqual(normal(1, (((2, (3, 7)),), (((1, 1), (1,)),))), told)
        # (5 + 4 p) by 6 is (2 + 2 p) by 3; (7 + 12 p) by 6 is 1 + 2 p; (-7) by 2 is -4.
        self.assertEqual(normal(1, (((6, (5, 4)),), (((1, 1), (1,)),))), (((3, (2, 2)),), (((1, 1), (1,)),)))
        self.assertEqual(normal(1, (((6, (7, 12)),), (((1, 1), (1,)),))), ((p,), (((1, 1), (0,)), ((2, 1), (1,)))))
        self.assertEqual(normal(1, (((2, (-7, 0)),), (((1, 1), (2,)),))), ((), (((16, 1), ()),)))
        self.assertEqual(normal(k=0, sp=(((4, (-1,)), (1, (9,))), (((1, 3), (1, 1)),))), ((), (((-3, 1), ()),)))
        self.assertEqual(normal(2, ((), ())), ((), ()))
        # Steps that take each other away, and steps that stand in poly no more.
        self.assertEqual(normal(1, ((half, half), (((-1, 1), (0, 1)), ((1, 1), (1, 0))))), ((), ()))
        self.assertEqual(normal(1, (((2, (2, 1)), half), (((-1, 1), (0, 1)), ((1, 1), (1, 0))))), ((), (((1, 1), ()),)))
        self.assertEqual(normal(1, ((half, p), (((5, 1), (0, 1)),))), ((p,), (((5, 1), (1,)),)))
        # The steps of p and of p + 1 by 2 stay, though they add up to p.
        told = ((half, (2, (1, 1))), (((1, 1), (0, 1)), ((1, 1), (1, 0))))
        self.assertEqual(normal(1, told), told)

    def test_random(self):
        rng = random.Random(551)
        for _ in range(250):
            k = rng.randint(0, 3)
            sp = random_step_poly(rng, k)
            told = normal(k, sp)
            self.assertTrue(is_normal(k, told), (sp, told))
            self.assertEqual(normal(k, told), told)
            for p in some_points(rng, k, 6):
                self.assertEqual(step_poly_at(told, p), step_poly_at(sp, p))
            # The writing hangs neither on the sequence of the steps nor on parts of no use.
            order = list(range(len(sp[0])))
            rng.shuffle(order)
            turned = sorted((tuple(exponents[i] for i in order) + (0,), part) for part, exponents in sp[1])
            other = (tuple(sp[0][i] for i in order) + ((5, (1,) * (k + 1)),), tuple((part, exponents) for exponents, part in turned))
            self.assertEqual(normal(k, other), told)


class Made(unittest.TestCase):
    def test_random(self):
        rng = random.Random(561)
        for _ in range(120):
            k, j = rng.randint(0, 2), rng.randint(0, 2)
            one, other = random_step_poly(rng, k, 2), random_step_poly(rng, k, 2)
            part, e = Fraction(rng.randint(-5, 5), rng.randint(1, 4)), rng.randint(0, 3)
            forms = tuple(tuple(rng.randint(-4, 4) for _ in range(j + 1)) for _ in range(k))
            made = (plus(k, one, other), times(k, one, other), scaled(k, one, pair(part)), raised(k, one, e))
            led = put_in(k, j, one, forms)
            for told in made:
                self.assertTrue(is_normal(k, told), told)
            self.assertTrue(is_normal(j, led))
            for p in some_points(rng, k, 5):
                a, b = step_poly_at(one, p), step_poly_at(other, p)
                self.assertEqual([step_poly_at(told, p) for told in made], [a + b, a * b, a * part, a ** e])
            for q in some_points(rng, j, 5):
                self.assertEqual(step_poly_at(led, q), step_poly_at(one, tuple(value_of(form, q) for form in forms)))

    def test_as_normal_writes_it(self):
        rng = random.Random(562)
        for _ in range(80):
            k = rng.randint(0, 2)
            one, other = random_step_poly(rng, k, 2, 2), random_step_poly(rng, k, 2, 2)
            n = len(one[0])
            side = [((*exponents, *[0] * len(other[0])), part) for part, exponents in one[1]]
            for part, exponents in other[1]:
                side.append(((0,) * n + exponents, part))
            total = {}
            for exponents, part in side:
                total[exponents] = total.get(exponents, 0) + Fraction(*part)
            both = ((*one[0], *other[0]), tuple((pair(part), exponents) for exponents, part in sorted(total.items()) if part))
            self.assertEqual(plus(k, one, other), normal(k, both))
            self.assertEqual(scaled(k, one, (2, 1)), plus(k, one, one))
            self.assertEqual(raised(k, one, 2), times(k, one, one))
            self.assertEqual(raised(k, one, 1), normal(k, one))
            self.assertEqual(times(k, one, other), times(k, other, one))

    def test_edges(self):
        half = (((2, (0, 1)),), (((1, 1), (1,)),))
        self.assertEqual(raised(k=1, sp=half, e=0), ((), ONE))
        self.assertEqual(raised(1, ((), ()), 0), ((), ONE))
        self.assertEqual(raised(1, ((), ()), 10), ((), ()))
        self.assertEqual(raised(1, half, 10), (half[0], (((1, 1), (10,)),)))
        self.assertEqual(scaled(k=1, sp=half, fraction=(0, 1)), ((), ()))
        self.assertEqual(plus(k=1, one=half, other=scaled(1, half, (-1, 1))), ((), ()))
        self.assertEqual(times(k=1, one=half, other=((), ())), ((), ()))
        self.assertEqual(put_in(k=0, j=2, sp=((), ONE), forms=()), ((), ONE))
        self.assertEqual(put_in(1, 0, half, ((7,),)), ((), (((3, 1), ()),)))
        self.assertEqual(put_in(1, 1, half, ((3, 2),)), (((1, (0, 1)),), (((1, 1), (0,)), ((1, 1), (1,)))))
        for forms in ((), ((0, 1), (0, 1))):
            self.assertRaises(NotFit, put_in, 1, 1, half, forms)
        self.assertRaises(NotFit, put_in, 0, 1, ((), ()), ((0, 1),))


class Classes(unittest.TestCase):
    def test_random(self):
        rng = random.Random(571)
        for _ in range(120):
            k = rng.randint(0, 3)
            sp = random_step_poly(rng, k, 3, 3, 4)
            rest = tuple(rng.randint(0, 11) for _ in range(k))
            told = on_class(k, sp, 12, rest)
            self.assertTrue(is_poly(told, k))
            for y in some_points(rng, k, 6):
                self.assertEqual(poly_at(told, y), step_poly_at(sp, tuple(12 * a + b for a, b in zip(y, rest))))

    def test_edges(self):
        sp = (((2, (0, 1)), (6, (1, 2))), (((1, 1), (0, 1)), ((1, 1), (1, 0))))
        self.assertRaises(NotFit, on_class, 1, sp, 2, (0,))
        self.assertRaises(NotFit, on_class, 1, sp, 3, (0,))
        # By 6 only 3 is left of the second step, so that 6 serves, and 4 does not.
        self.assertEqual(on_class(k=1, sp=sp, N=6, rest=(5,)), (((2 + 1, 1), (0,)), ((5, 1), (1,))))
        self.assertRaises(NotFit, on_class, 1, sp, 4, (0,))
        melting = (((4, (3, 8)),), (((1, 1), (2,)),))
        self.assertEqual(on_class(1, melting, 1, (0,)), (((4, 1), (2,)),))
        same = (((2, (0, 1)), (2, (1, 1)), (1, (0, 1))), (((-1, 1), (0, 0, 1)), ((1, 1), (0, 1, 0)), ((1, 1), (1, 0, 0))))
        self.assertEqual([on_class(1, same, 2, (rest,)) for rest in (0, 1)], [(), ()])
        self.assertEqual(on_class(0, (((5, (9,)),), (((1, 1), (1,)),)), 1, ()), (((1, 1), ()),))


if __name__ == "__main__":
    unittest.main()
