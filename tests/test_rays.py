import random
import unittest
from fractions import Fraction

from pointtally.addings import least, settled
from pointtally.errors import NotBounded
from pointtally.rays import box, is_ray_or_bounds, ray_or_bounds
from tests.test_addings import number_tuple
from tests.tools import JUNK, deep_nest, random_form, replaced_everywhere

SQUARE = ((0, 1, 0), (0, 0, 1), (4, -1, 0), (3, 0, -1))


def naive(k, d, rows, value):
    """Tell whether a value is a ray or bounds, written apart from the program."""
    if type(value) is not tuple or len(value) != 2 or type(value[0]) is not str:
        return False
    heads = [row[k + 1:] for row in rows]
    word, told = value
    if word == "ray":
        if not number_tuple(told, d) or not any(told):
            return False
        return all(sum(a * b for a, b in zip(head, told)) >= 0 for head in heads)
    if word != "bounds" or type(told) is not tuple or len(told) != d:
        return False
    for j, pair in enumerate(told):
        if type(pair) is not tuple or len(pair) != 2:
            return False
        for sign, bound in zip((1, -1), pair):
            if type(bound) is not tuple or len(bound) != 2 or type(bound[0]) is not int or bound[0] < 1:
                return False
            n, factors = bound
            if not number_tuple(factors, len(rows)) or min(factors, default=0) < 0:
                return False
            for i in range(d):
                if sum(factor * head[i] for factor, head in zip(factors, heads)) != (sign * n if i == j else 0):
                    return False
    return True


def random_hall(rng, high=4):
    k, d = rng.randint(0, 3), rng.randint(0, 4)
    rows = [random_form(rng, k + d, high) for _ in range(rng.randint(0, 6))]
    if rng.randint(0, 1):
        for j in range(d):
            for sign in (1, -1):
                rows.append((rng.randint(-2, 9),) + random_form(rng, k - 1, 3) * (k > 0) + tuple(sign * (i == j) for i in range(d)))
    rng.shuffle(rows)
    return k, d, tuple(rows[:12])


class RayOrBounds(unittest.TestCase):
    def test_by_hand(self):
        self.assertEqual(ray_or_bounds(0, 0, ()), ("bounds", ()))
        self.assertEqual(ray_or_bounds(2, 0, ((1, 2, 3),)), ("bounds", ()))
        self.assertEqual(ray_or_bounds(0, 1, ())[0], "ray")
        self.assertEqual(ray_or_bounds(0, 2, SQUARE)[0], "bounds")
        self.assertEqual(ray_or_bounds(0, 2, SQUARE[:3])[0], "ray")
        self.assertEqual(ray_or_bounds(1, 1, ((0, 5, 0), (0, -5, 0)))[0], "ray")
        self.assertEqual(ray_or_bounds(0, 1, ((-5, 2), (3, -4)))[0], "bounds")
        self.assertEqual(ray_or_bounds(k=0, d=0, rows=()), ("bounds", ()))
        self.assertIs(is_ray_or_bounds(k=0, d=0, rows=(), value=("bounds", ())), True)
        self.assertIs(is_ray_or_bounds(0, 0, (), ("ray", ())), False)

    def test_random(self):
        rng = random.Random(51)
        words = []
        for _ in range(400):
            k, d, rows = random_hall(rng, rng.choice((2, 5, 10 ** 40)))
            told = ray_or_bounds(k, d, rows)
            words.append(told[0])
            self.assertTrue(naive(k, d, rows, told), (k, d, rows, told))
            self.assertIs(is_ray_or_bounds(k, d, rows, told), True)
            self.assertEqual(ray_or_bounds(k, d, rows), told)
        self.assertGreater(words.count("ray"), 100)
        self.assertGreater(words.count("bounds"), 100)

    def test_other_values(self):
        rows = SQUARE[:3]
        self.assertIs(is_ray_or_bounds(0, 2, rows, ("ray", (0, 17))), True)
        self.assertIs(is_ray_or_bounds(0, 2, rows, ("ray", (0, 0))), False)
        self.assertIs(is_ray_or_bounds(0, 2, rows, ("ray", (1, 17))), False)
        self.assertIs(is_ray_or_bounds(0, 2, rows, ("ray", (0, -1))), False)
        bounds = (((3, (4, 0, 1, 0)), (2, (1, 0, 3, 0))), ((1, (0, 1, 0, 0)), (5, (0, 1, 0, 6))))
        self.assertIs(is_ray_or_bounds(0, 2, SQUARE, ("bounds", bounds)), True)
        self.assertIs(is_ray_or_bounds(0, 2, SQUARE, ("bounds", bounds[::-1])), False)
        self.assertIs(is_ray_or_bounds(0, 2, SQUARE, ("bounds", (bounds[0][::-1], bounds[1]))), False)

    def test_spoiled(self):
        bounds = (((3, (4, 0, 1, 0)), (2, (1, 0, 3, 0))), ((1, (0, 1, 0, 0)), (5, (0, 1, 0, 6))))
        for k, d, rows, value in (
            (0, 2, SQUARE, ("bounds", bounds)), (0, 2, SQUARE[:3], ("ray", (0, 17))), (0, 0, (), ("bounds", ())),
            (1, 1, ((7, 3, 2), (1, 5, -3)), ("bounds", (((2, (1, 0)), (3, (0, 1))),))),
        ):
            self.assertTrue(naive(k, d, rows, value))
            for wrong in (value, *replaced_everywhere(value, (0, 1, -1)), *JUNK, deep_nest(200, value)):
                self.assertIs(is_ray_or_bounds(k, d, rows, wrong), naive(k, d, rows, wrong), wrong)

    def test_great(self):
        rng = random.Random(52)
        for high in (10, 10 ** 200):
            for _ in range(3):
                rows = tuple(random_form(rng, 9, high) for _ in range(12))
                told = ray_or_bounds(3, 6, rows)
                self.assertTrue(naive(3, 6, rows, told))
                more = rows[:10] + tuple((0, 0, 0, 0) + tuple(-sum(row[4 + j] for row in rows[:10]) for j in range(6)) for _ in range(2))
                told = ray_or_bounds(3, 6, more)
                self.assertTrue(naive(3, 6, more, told))
                self.assertEqual(told[0], "bounds")


class Box(unittest.TestCase):
    def test_by_hand(self):
        self.assertEqual(box(0, 2, SQUARE, ()), ((0, 4), (0, 3)))
        self.assertEqual(box(1, 1, ((0, 0, 2), (0, 1, -3)), (7,)), ((0, 2),))
        self.assertEqual(box(0, 1, ((-1, 3), (2, -3)), ()), ((1, 0),))
        self.assertEqual(box(0, 1, ((1, 3), (-1, -4)), ()), ((0, -1),))
        self.assertEqual(box(0, 1, ((7, 3), (-1, -4)), ()), ((-2, -1),))
        self.assertIsNone(box(1, 1, ((0, 0, 2), (0, 1, -3)), (-1,)))
        self.assertEqual(box(1, 0, ((0, 1),), (3,)), ())
        self.assertIsNone(box(1, 0, ((0, 1),), (-3,)))
        self.assertEqual(box(0, 0, (), ()), ())
        self.assertEqual(box(k=0, d=1, rows=((0, 1), (0, -1)), p=()), ((0, 0),))

    def test_errors(self):
        self.assertRaises(NotBounded, box, 0, 1, (), ())
        self.assertRaises(NotBounded, box, 1, 1, ((0, 1, 1),), (0,))
        self.assertRaises(NotBounded, box, 1, 2, ((0, 0, 1, 0), (5, 0, -1, 0), (0, 1, 0, 0)), (0,))
        self.assertIsNone(box(1, 2, ((0, 0, 1, 0), (5, 0, -1, 0), (0, 1, 0, 0)), (-1,)))

    def test_random(self):
        rng = random.Random(53)
        kinds = []
        for _ in range(300):
            k, d, rows = random_hall(rng)
            p = tuple(rng.randint(-3, 6) for _ in range(k))
            here = tuple((row[0] + sum(a * b for a, b in zip(row[1:], p)),) + row[k + 1:] for row in rows)
            if settled(d, here)[0] == "factors":
                self.assertIsNone(box(k, d, rows, p))
                kinds.append(None)
            elif ray_or_bounds(k, d, rows)[0] == "ray":
                self.assertRaises(NotBounded, box, k, d, rows, p)
                kinds.append("ray")
            else:
                kinds.append("box")
                told = box(k, d, rows, p)
                self.assertEqual(len(told), d)
                for j, (low, high) in enumerate(told):
                    up = Fraction(*least(d, here, tuple([0] + [int(i == j) for i in range(d)]))[1])
                    down = -Fraction(*least(d, here, tuple([0] + [-int(i == j) for i in range(d)]))[1])
                    self.assertTrue(low - 1 < up <= low and high <= down < high + 1)
        for kind in (None, "ray", "box"):
            self.assertGreater(kinds.count(kind), 40)

    def test_great(self):
        far = 10 ** 100
        rows = tuple(tuple([far, 0, 0, 1] + [-(i == j) for i in range(6)]) for j in range(6)) + tuple(
            tuple([0, 1, 0, 0] + [2 * (i == j) for i in range(6)]) for j in range(6))
        self.assertEqual(box(3, 6, rows, (7, 10 ** 40, -5)), ((-3, far - 5),) * 6)
