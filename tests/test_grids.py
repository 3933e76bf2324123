import random
import unittest
from itertools import combinations
from math import gcd

from pointtally.errors import NotFit, NotGrid, TooMany
from pointtally.grids import (
    divided_grid, form_on, grid_of, grid_within, leading, meet, need_grid, others, place_in, place_map, point_at,
    size_of, whole_grid,
)
from pointtally.matrices import rank
from tests.tools import JUNK, at, cube, deep_nest, digits, gauss_rank, leibniz, random_form, replaced_everywhere


def random_grid(rng, m, high=4):
    """Return a random grid over m letters."""
    diagonal = [rng.randint(1, high) for _ in range(m)]
    table = tuple(tuple(rng.randrange(diagonal[i]) if j < i else diagonal[i] if j == i else 0 for j in range(m))
                  for i in range(m))
    return (table, tuple(rng.randrange(n) for n in diagonal))


def holds(grid, t):
    """Tell whether t is a point, written apart from the program."""
    table, s = grid
    rest = [a - b for a, b in zip(t, s, strict=True)]
    for i in range(len(rest)):
        steps, over = divmod(rest[i], table[i][i])
        if over:
            return False
        rest = [a - steps * row[i] for a, row in zip(rest, table)]
    return True


def naive_is_grid(value):
    if type(value) is not tuple or len(value) != 2 or type(value[0]) is not tuple or type(value[1]) is not tuple:
        return False
    table, s = value
    m = len(table)
    if m > 9 or len(s) != m or any(type(row) is not tuple or len(row) != m for row in table):
        return False
    if any(type(entry) is not int for row in table + (s,) for entry in row):
        return False
    for i in range(m):
        if table[i][i] < 1 or any(table[i][j] != 0 for j in range(i + 1, m)) or not 0 <= s[i] < table[i][i]:
            return False
        if any(not 0 <= table[i][j] < table[i][i] for j in range(i)):
            return False
    return True


class NeedGrid(unittest.TestCase):
    def check(self, value):
        if naive_is_grid(value):
            self.assertIs(need_grid(value), value)
            return True
        self.assertRaises(NotGrid, need_grid, value)
        return False

    def test_junk(self):
        for value in (*JUNK, deep_nest(200), ((((0,) * 10,) * 10), (0,) * 10)):
            self.check(value)
        self.assertTrue(self.check(((), ())))
        self.assertFalse(self.check([(), ()]))
        self.assertFalse(self.check(((), (), ())))

    def test_grids(self):
        rng = random.Random(25)
        for m in range(10):
            self.assertTrue(self.check(whole_grid(m)))
            self.assertTrue(self.check(random_grid(rng, m)))
        ten = tuple(tuple(int(i == j) for j in range(10)) for i in range(10))
        self.assertFalse(self.check((ten, (0,) * 10)))
        self.assertTrue(self.check((((10 ** 400,),), (10 ** 400 - 1,))))

    def test_entries(self):
        for value, told in (
            ((((2, 0), (1, 3)), (1, 2)), True), ((((2, 0), (2, 3)), (1, 2)), True), ((((2, 0), (3, 3)), (1, 2)), False),
            ((((2, 0), (-1, 3)), (1, 2)), False), ((((2, 1), (1, 3)), (1, 2)), False), ((((2, 0), (1, 0)), (1, 0)), False),
            ((((-2, 0), (1, 3)), (1, 2)), False), ((((2, 0), (1, 3)), (2, 2)), False), ((((2, 0), (1, 3)), (1, 3)), False),
            ((((2, 0), (1, 3)), (-1, 2)), False), ((((2, 0), (1, 3)), (1,)), False), ((((2, 0), (1, 3)), (1, 2, 0)), False),
            ((((2, 0),), (1,)), False), ((((2,), (1, 3)), (1, 2)), False), ((((2, 0), (True, 3)), (1, 2)), False),
            ((((2, 0), (1, 3)), (True, 2)), False), ((((2, False), (1, 3)), (1, 2)), False), (([(2, 0), (1, 3)], (1, 2)), False),
            ((([2, 0], (1, 3)), (1, 2)), False), ((((2, 0), (1, 3)), [1, 2]), False), ((((2.0, 0), (1, 3)), (1, 2)), False),
        ):
            self.assertEqual(self.check(value), told, value)

    def test_spoiled(self):
        rng = random.Random(26)
        for _ in range(20):
            for value in replaced_everywhere(random_grid(rng, rng.randint(0, 3)), (1, -1, 4)):
                self.check(value)

    def test_keywords(self):
        self.assertEqual(need_grid(value=((), ())), ((), ()))


class Points(unittest.TestCase):
    def test_by_hand(self):
        grid = (((2, 0), (1, 3)), (1, 2))
        self.assertEqual(size_of(grid), 6)
        self.assertEqual(point_at(grid, (1, -1)), (3, 0))
        self.assertEqual(place_in(grid, (3, 0)), (1, -1))
        self.assertIsNone(place_in(grid, (2, 0)))
        self.assertIsNone(place_in(grid, (3, 1)))
        self.assertEqual(form_on(grid, (5, 1, 10)), (26, 12, 30))
        self.assertEqual(whole_grid(0), ((), ()))
        self.assertEqual(whole_grid(2), (((1, 0), (0, 1)), (0, 0)))
        self.assertEqual((size_of(((), ())), point_at(((), ()), ()), place_in(((), ()), ())), (1, (), ()))
        self.assertEqual(form_on(((), ()), (7,)), (7,))

    def test_keywords(self):
        grid = (((2,),), (1,))
        self.assertEqual(size_of(grid=grid), 2)
        self.assertEqual(point_at(grid=grid, y=(2,)), (5,))
        self.assertEqual(place_in(grid=grid, t=(5,)), (2,))
        self.assertEqual(form_on(grid=grid, form=(0, 1)), (1, 2))
        self.assertEqual(whole_grid(m=1), (((1,),), (0,)))

    def test_random(self):
        rng = random.Random(27)
        for _ in range(200):
            m = rng.randint(0, 9)
            high = rng.choice((4, 10 ** 200))
            grid = random_grid(rng, m, high)
            y = tuple(digits(rng, rng.choice((1, 200))) for _ in range(m))
            t = point_at(grid, y)
            self.assertEqual(t, tuple(s + sum(a * b for a, b in zip(row, y)) for row, s in zip(*grid)))
            self.assertEqual(place_in(grid, t), y)
            form = random_form(rng, m, high)
            self.assertEqual(at(form_on(grid, form), y), at(form, t))
            wild = tuple(digits(rng, 1) for _ in range(m))
            self.assertEqual(place_in(grid, wild) is not None, holds(grid, wild))

    def test_one_of_each_class(self):
        rng = random.Random(28)
        for _ in range(60):
            m = rng.randint(0, 3)
            grid = random_grid(rng, m)
            table = grid[0]
            found = [t for t in cube(m, 0, 3) if all(t[i] < table[i][i] for i in range(m)) and holds(grid, t)]
            self.assertEqual(found, [grid[1]])
            size = 1
            for i in range(m):
                size *= table[i][i]
            self.assertEqual(size_of(grid), size)


class GridOf(unittest.TestCase):
    def test_by_hand(self):
        self.assertEqual(grid_of(((2, 4), (0, 6)), (5, 5)), (((2, 0), (4, 6)), (1, 3)))
        self.assertEqual(grid_of((), ()), ((), ()))
        self.assertEqual(grid_of(((), ()), ()), ((), ()))
        self.assertEqual(grid_of(((6,), (-4,)), (7,)), (((2,),), (1,)))
        self.assertEqual(grid_of(((0, 1), (1, 0)), (-3, 4)), whole_grid(2))
        self.assertEqual(grid_of(vectors=((-5,),), s=(-1,)), (((5,),), (4,)))

    def test_rank(self):
        self.assertRaises(NotGrid, grid_of, (), (0,))
        self.assertRaises(NotGrid, grid_of, ((0,), (0,)), (0,))
        self.assertRaises(NotGrid, grid_of, ((1, 2), (2, 4), (-3, -6)), (0, 0))
        self.assertRaises(NotGrid, grid_of, ((1, 2, 0), (2, 4, 1)), (0, 0, 0))

    def test_random(self):
        rng = random.Random(29)
        told = 0
        for _ in range(300):
            m, many = rng.randint(0, 3), rng.randint(0, 5)
            vectors = tuple(tuple(rng.randint(-4, 4) for _ in range(m)) for _ in range(many))
            s = tuple(rng.randint(-9, 9) for _ in range(m))
            if gauss_rank(vectors) < m:
                self.assertRaises(NotGrid, grid_of, vectors, s)
                continue
            told += 1
            grid = need_grid(grid_of(vectors, s))
            self.assertTrue(holds(grid, s))
            straight = (grid[0], (0,) * m)
            for vector in vectors:
                self.assertTrue(holds(straight, vector))
            # Both hold all sums of the vectors and leave as many classes, so they are the same.
            self.assertEqual(self.minors(vectors, m), size_of(grid))
        self.assertGreater(told, 100)

    def minors(self, vectors, m):
        """Return the greatest common part of all determinants: how many classes the sums leave."""
        return gcd(*(leibniz(part) for part in combinations(vectors, m))) if m else 1

    def test_one_writing(self):
        rng = random.Random(30)
        for _ in range(100):
            m = rng.randint(0, 5)
            grid = random_grid(rng, m, 6)
            columns = [tuple(row[j] for row in grid[0]) for j in range(m)]
            for _ in range(5):
                i, j = rng.randrange(max(m, 1)), rng.randrange(max(m, 1))
                if i != j:
                    n = rng.randint(-3, 3)
                    columns[i] = tuple(a + n * b for a, b in zip(columns[i], columns[j]))
            columns += [tuple(2 * a for a in column) for column in columns[:2]]
            rng.shuffle(columns)
            s = point_at(grid, tuple(rng.randint(-3, 3) for _ in range(m)))
            self.assertEqual(grid_of(tuple(columns), s), grid)

    def test_great(self):
        rng = random.Random(31)
        for many in (9, 12, 30):
            vectors = tuple(tuple(6 * digits(rng, 199) for _ in range(9)) for _ in range(many))
            s = tuple(digits(rng, 200) for _ in range(9))
            grid = need_grid(grid_of(vectors, s))
            self.assertTrue(holds(grid, s))
            self.assertTrue(all(holds((grid[0], (0,) * 9), vector) for vector in vectors))
            self.assertEqual(size_of(grid) % 6 ** 9, 0)
            self.assertEqual(grid_of(vectors, s), grid)
            self.assertEqual(rank(vectors), 9)


class Within(unittest.TestCase):
    def test_by_hand(self):
        self.assertEqual(grid_within((((2,),), (1,)), (((3,),), (2,))), (((6,),), (5,)))
        self.assertEqual(grid_within(((), ()), ((), ())), ((), ()))
        self.assertEqual(leading((((2, 0), (1, 3)), (1, 2)), 1), (((2,),), (1,)))
        self.assertEqual(leading((((2, 0), (1, 3)), (1, 2)), 0), ((), ()))
        self.assertEqual(leading(grid=(((2,),), (1,)), count=1), (((2,),), (1,)))
        self.assertEqual(place_map((((2,),), (1,)), (((6,),), (5,))), (((3,),), (2,)))
        self.assertIsNone(place_map((((2,),), (1,)), (((6,),), (4,))))
        self.assertIsNone(place_map((((2,),), (1,)), (((3,),), (1,))))
        self.assertEqual(place_map(((), ()), ((), ())), ((), ()))
        self.assertEqual(place_map(grid=(((1,),), (0,)), inner=(((3,),), (1,))), (((3,),), (1,)))
        self.assertEqual(grid_within(grid=(((1,),), (0,)), inner=(((3,),), (1,))), (((3,),), (1,)))

    def test_random(self):
        rng = random.Random(32)
        for _ in range(120):
            m = rng.randint(0, 3)
            grid, inner = random_grid(rng, m, 3), random_grid(rng, m, 3)
            both = need_grid(grid_within(grid, inner))
            for t in cube(m, -5, 5):
                y = place_in(grid, t)
                self.assertEqual(holds(both, t), y is not None and holds(inner, y))
            table, start = place_map(grid, both)
            for z in cube(m, -2, 2):
                y = place_in(grid, point_at(both, z))
                self.assertEqual(y, tuple(w + sum(a * b for a, b in zip(row, z)) for w, row in zip(start, table)))
            for count in range(m + 1):
                front = need_grid(leading(grid, count))
                seen = {point_at(grid, y)[:count] for y in cube(m, -8, 8)}
                for t in cube(count, -2, 2):
                    self.assertEqual(holds(front, t), t in seen)

    def test_place_map_none(self):
        rng = random.Random(33)
        told = [0, 0]
        for _ in range(400):
            m = rng.randint(1, 3)
            grid, inner = random_grid(rng, m, 3), random_grid(rng, m, 3)
            among = all(holds(grid, point_at(inner, z)) for z in cube(m, -1, 1))
            self.assertEqual(place_map(grid, inner) is not None, among)
            told[among] += 1
        self.assertGreater(min(told), 20)

    def test_great(self):
        rng = random.Random(34)
        grid, inner = random_grid(rng, 9, 10 ** 200), random_grid(rng, 9, 10 ** 200)
        both = need_grid(grid_within(grid, inner))
        self.assertEqual(size_of(both), size_of(grid) * size_of(inner))
        z = tuple(digits(rng, 200) for _ in range(9))
        self.assertTrue(holds(both, point_at(grid, point_at(inner, z))))
        table, start = place_map(grid, both)
        y = tuple(w + sum(a * b for a, b in zip(row, z)) for w, row in zip(start, table))
        self.assertEqual(point_at(grid, y), point_at(both, z))


class Divided(unittest.TestCase):
    def test_by_hand(self):
        self.assertEqual(divided_grid(1, 3, (1, 1)), (((3,),), (2,)))
        self.assertIsNone(divided_grid(1, 4, (1, 2)))
        self.assertEqual(divided_grid(2, 1, (5, 3, 4)), whole_grid(2))
        self.assertEqual(divided_grid(2, 2, (0, 1, 1)), (((1, 0), (1, 2)), (0, 0)))
        self.assertEqual(divided_grid(0, 5, (10,)), ((), ()))
        self.assertIsNone(divided_grid(0, 5, (11,)))
        self.assertIsNone(divided_grid(2, 5, (11, 0, 5)))
        self.assertEqual(divided_grid(m=2, n=5, form=(10, 0, 5)), whole_grid(2))

    def test_random(self):
        rng = random.Random(35)
        nones = 0
        for _ in range(400):
            m, n = rng.randint(0, 3), rng.randint(1, 12)
            form = tuple(rng.choice((0, 1, 2, 3, 4, 6, -5, -6, 8, 12)) for _ in range(m + 1))
            grid = divided_grid(m, n, form)
            points = [t for t in cube(m, -3, 3) if at(form, t) % n == 0]
            if grid is None:
                nones += 1
                self.assertFalse(any(at(form, t) % n == 0 for t in cube(m, 0, 11)))
                continue
            need_grid(grid)
            self.assertEqual([t for t in cube(m, -3, 3) if holds(grid, t)], points)
        self.assertGreater(nones, 50)

    def test_great(self):
        rng = random.Random(36)
        for n in (10 ** 200 - 1, 2 ** 300 * 3 ** 100, 7):
            form = random_form(rng, 9, 10 ** 200)
            grid = divided_grid(9, n, form)
            if grid is not None:
                need_grid(grid)
                t = point_at(grid, tuple(digits(rng, 20) for _ in range(9)))
                self.assertEqual(at(form, t) % n, 0)
                self.assertEqual(n % size_of(grid), 0)


class Meet(unittest.TestCase):
    def test_by_hand(self):
        self.assertEqual(meet((((2,),), (1,)), (((3,),), (1,))), (((6,),), (1,)))
        self.assertIsNone(meet((((2,),), (1,)), (((4,),), (2,))))
        self.assertEqual(meet(((), ()), ((), ())), ((), ()))
        self.assertEqual(meet(one=(((2,),), (1,)), other=(((1,),), (0,))), (((2,),), (1,)))

    def test_not_fit(self):
        for m in range(4):
            for n in range(4):
                if m != n:
                    self.assertRaises(NotFit, meet, whole_grid(m), whole_grid(n))

    def test_random(self):
        rng = random.Random(37)
        nones = 0
        for _ in range(300):
            m = rng.randint(0, 3)
            one, other = random_grid(rng, m), random_grid(rng, m)
            grid = meet(one, other)
            self.assertEqual(meet(other, one), grid)
            points = [t for t in cube(m, -4, 4) if holds(one, t) and holds(other, t)]
            if grid is None:
                nones += 1
                self.assertEqual([t for t in cube(m, 0, 11) if holds(one, t) and holds(other, t)], [])
            else:
                need_grid(grid)
                self.assertEqual([t for t in cube(m, -4, 4) if holds(grid, t)], points)
        self.assertGreater(nones, 30)

    def test_great(self):
        rng = random.Random(38)
        one = random_grid(rng, 9, 10 ** 200)
        self.assertEqual(meet(one, one), one)
        self.assertEqual(meet(one, whole_grid(9)), one)
        inner = grid_within(one, random_grid(rng, 9, 3))
        self.assertEqual(meet(one, inner), inner)
        other = random_grid(rng, 9, 10 ** 200)
        shared = meet((one[0], (0,) * 9), (other[0], (0,) * 9))
        need_grid(shared)
        for y in ((0,) * 9, tuple(digits(rng, 9) for _ in range(9))):
            t = point_at(shared, y)
            self.assertTrue(holds((one[0], (0,) * 9), t) and holds((other[0], (0,) * 9), t))


class Others(unittest.TestCase):
    def test_by_hand(self):
        self.assertEqual(others((((2, 0), (1, 2)), (1, 0))),
                         tuple((((2, 0), (1, 2)), s) for s in ((0, 0), (0, 1), (1, 1))))
        self.assertEqual(others(((), ())), ())
        self.assertEqual(others(grid=whole_grid(5)), ())

    def test_limit(self):
        self.assertEqual(len(others((((10001,),), (5,)))), 10000)
        self.assertEqual(len(others((((100, 0), (1, 100)), (5, 7)))), 9999)
        for grid in ((((10002,),), (0,)), (((10 ** 200,),), (3,)), (((3, 0), (0, 3334)), (0, 0))):
            with self.assertRaises(TooMany) as caught:
                others(grid)
            self.assertEqual(caught.exception.limit, 10000)

    def test_random(self):
        rng = random.Random(39)
        for _ in range(60):
            m = rng.randint(0, 3)
            grid = random_grid(rng, m)
            told = others(grid)
            self.assertEqual(list(told), sorted(told, key=lambda other: other[1]))
            self.assertEqual(len(told), size_of(grid) - 1)
            for other in told:
                need_grid(other)
                self.assertEqual(other[0], grid[0])
            for t in cube(m, -2, 2):
                self.assertEqual([holds(other, t) for other in (*told, grid)].count(True), 1)
