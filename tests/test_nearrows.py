import random
import unittest

from pointtally.errors import Singular
from pointtally.matrices import determinant, parts_of
from pointtally.nearrows import index_of, is_near_row, near_row
from tests.tools import JUNK, cube, digits, leibniz, replaced_everywhere


def naive(rays, value):
    """Tell whether a value is a near row, written apart from the program."""
    m = len(rays)
    if type(value) is not tuple or len(value) != m or any(type(entry) is not int for entry in value):
        return False
    if not any(value):
        return False
    size = abs(leibniz(rays))
    return all(2 * abs(leibniz(rays[:i] + (value,) + rays[i + 1:])) <= size for i in range(m))


class NearRows(unittest.TestCase):
    def test_by_hand(self):
        self.assertEqual(index_of(((-3,),)), 3)
        self.assertIsNone(near_row(((1,),)))
        self.assertIsNone(near_row(((-1,),)))
        self.assertIsNone(near_row(((1, 5), (0, -1))))
        self.assertIn(near_row(((2,),)), ((1,), (-1,)))
        self.assertIn(near_row(((3,),)), ((1,), (-1,)))
        self.assertEqual(index_of(rays=((2, 0), (0, 3))), 6)
        self.assertIsNone(near_row(rays=((1,),)))
        self.assertIs(is_near_row(rays=((2,),), value=(1,)), True)

    def test_just_a_half(self):
        self.assertIs(is_near_row(((2,),), (1,)), True)
        self.assertIs(is_near_row(((2,),), (-1,)), True)
        self.assertIs(is_near_row(((2,),), (2,)), False)
        self.assertIs(is_near_row(((3,),), (2,)), False)
        self.assertIs(is_near_row(((4,),), (-2,)), True)
        self.assertIs(is_near_row(((2, 0), (0, 2)), (1, -1)), True)
        self.assertIs(is_near_row(((2, 0), (0, 2)), (1, 2)), False)
        self.assertIs(is_near_row(((1, 1), (1, -1)), (1, 0)), True)
        self.assertIs(is_near_row(((1,),), (0,)), False)
        self.assertIs(is_near_row(((5, 0), (0, 1)), (0, 0)), False)

    def test_singular(self):
        for rays in (((0,),), ((1, 2), (2, 4)), ((0, 0, 0),) * 3):
            self.assertRaises(Singular, index_of, rays)
            self.assertRaises(Singular, near_row, rays)
            for value in (*JUNK, (1,), (1, 0)):
                self.assertRaises(Singular, is_near_row, rays, value)

    def test_values(self):
        rays = ((2, 1), (0, 3))
        for value in (*JUNK, [1, 0], (1,), (1, 0, 0), (True, 0), (1, False), (1.0, 0), (None, 1)):
            self.assertIs(is_near_row(rays, value), naive(rays, value))
        for value in replaced_everywhere((1, 1), (0, 2, -1)):
            self.assertIs(is_near_row(rays, value), naive(rays, value))

    def test_random(self):
        rng = random.Random(40)
        for _ in range(300):
            m = rng.randint(1, 4)
            rays = tuple(tuple(rng.randint(-4, 4) for _ in range(m)) for _ in range(m))
            size = abs(leibniz(rays))
            if size == 0:
                continue
            self.assertEqual(index_of(rays), size)
            told = near_row(rays)
            self.assertEqual(told, near_row(rays))
            if size == 1:
                self.assertIsNone(told)
            else:
                self.assertTrue(naive(rays, told))
                self.assertIs(is_near_row(rays, told), True)
            if m < 4:
                found = [value for value in cube(m, -2, 2) if is_near_row(rays, value)]
                self.assertEqual(found, [value for value in cube(m, -2, 2) if naive(rays, value)])
                self.assertFalse(size == 1 and found)

    def test_great(self):
        rng = random.Random(41)
        for m in range(1, 7):
            rays = tuple(tuple(digits(rng, 200) for _ in range(m)) for _ in range(m))
            w = near_row(rays)
            numbers, size = parts_of(rays, w)
            self.assertEqual(size, abs(determinant(rays)))
            self.assertTrue(any(w) and all(2 * abs(number) <= size for number in numbers))
            self.assertIs(is_near_row(rays, w), True)
            self.assertIs(is_near_row(rays, tuple(2 * n + 1 for n in rays[0])), False)
