import random
import unittest
from fractions import Fraction

from pointtally.errors import Singular
from pointtally.matrices import (
    adjoint, determinant, parts_of, rank, solved, times_column, times_row, times_table,
)
from tests.tools import digits, gauss_rank, leibniz


def table_of(rng, m, high=6):
    return tuple(tuple(rng.randint(-high, high) for _ in range(m)) for _ in range(m))


def unit(m, n=1):
    return tuple(tuple(n * (i == j) for j in range(m)) for i in range(m))


def fraction_determinant(table):
    """Return the determinant by fractions, one column after another."""
    rows, told = [[Fraction(entry) for entry in row] for row in table], Fraction(1)
    for i in range(len(rows)):
        place = next((r for r in range(i, len(rows)) if rows[r][i] != 0), None)
        if place is None:
            return 0
        if place != i:
            rows[i], rows[place], told = rows[place], rows[i], -told
        told *= rows[i][i]
        for r in range(i + 1, len(rows)):
            ratio = rows[r][i] / rows[i][i]
            rows[r] = [a - ratio * b for a, b in zip(rows[r], rows[i])]
    return told


class Determinant(unittest.TestCase):
    def test_by_hand(self):
        self.assertEqual(determinant(()), 1)
        self.assertEqual(determinant(((-7,),)), -7)
        self.assertEqual(determinant(((0,),)), 0)
        self.assertEqual(determinant(((1, 2), (3, 4))), -2)
        self.assertEqual(determinant(((0, 1), (1, 0))), -1)
        self.assertEqual(determinant(((0, 0, 1), (1, 0, 0), (0, 1, 0))), 1)
        self.assertEqual(determinant(((1, 2), (2, 4))), 0)
        self.assertEqual(determinant(table=((2,),)), 2)

    def test_random(self):
        rng = random.Random(16)
        for _ in range(400):
            table = table_of(rng, rng.randint(0, 5), rng.choice((1, 2, 9)))
            self.assertEqual(determinant(table), leibniz(table))

    def test_great(self):
        rng = random.Random(17)
        for m in (7, 8, 9):
            table = tuple(tuple(digits(rng, 200) for _ in range(m)) for _ in range(m))
            self.assertEqual(determinant(table), fraction_determinant(table))
            self.assertEqual(determinant(table[:-1] + (table[0],)), 0)
            self.assertEqual(determinant((table[1], table[0]) + table[2:]), -determinant(table))


class Products(unittest.TestCase):
    def test_by_hand(self):
        table = ((1, 2), (3, 4))
        self.assertEqual(times_row((5, 6), table), (23, 34))
        self.assertEqual(times_column(table, (5, 6)), (17, 39))
        self.assertEqual(times_table(table, ((0, 1), (1, 0))), ((2, 1), (4, 3)))
        self.assertEqual(times_row((), ()), ())
        self.assertEqual(times_column((), ()), ())
        self.assertEqual(times_table((), ()), ())
        self.assertEqual(times_row(row=(2,), table=((3,),)), (6,))
        self.assertEqual(times_column(table=((3,),), column=(2,)), (6,))
        self.assertEqual(times_table(one=((3,),), other=((2,),)), ((6,),))

    def test_random(self):
        rng = random.Random(18)
        for _ in range(100):
            m = rng.randint(0, 9)
            one, other = table_of(rng, m, 10 ** 30), table_of(rng, m, 10 ** 30)
            v = tuple(digits(rng, 30) for _ in range(m))
            span = range(m)
            self.assertEqual(times_row(v, one), tuple(sum(v[i] * one[i][j] for i in span) for j in span))
            self.assertEqual(times_column(one, v), tuple(sum(one[i][j] * v[j] for j in span) for i in span))
            self.assertEqual(times_table(one, other),
                             tuple(tuple(sum(one[i][h] * other[h][j] for h in span) for j in span) for i in span))


class Adjoint(unittest.TestCase):
    def test_by_hand(self):
        self.assertEqual(adjoint(()), ())
        for entry in (0, 5, -5):
            self.assertEqual(adjoint(((entry,),)), ((1,),))
        self.assertEqual(adjoint(((1, 2), (3, 4))), ((4, -2), (-3, 1)))
        self.assertEqual(adjoint(((1, 2), (2, 4))), ((4, -2), (-2, 1)))
        self.assertEqual(adjoint(((0, 0), (0, 0))), ((0, 0), (0, 0)))
        self.assertEqual(adjoint(table=((3,),)), ((1,),))

    def test_cofactors(self):
        rng = random.Random(19)
        for _ in range(150):
            m = rng.randint(0, 5)
            table = table_of(rng, m, rng.choice((1, 5)))
            if rng.randint(0, 2) == 0 and m > 1:
                table = (table[1],) + table[1:]
            told = adjoint(table)
            for i in range(m):
                for j in range(m):
                    part = tuple(row[:i] + row[i + 1:] for r, row in enumerate(table) if r != j)
                    self.assertEqual(told[i][j], (-1) ** (i + j) * leibniz(part))
            self.assertEqual(times_table(told, table), unit(m, leibniz(table)))
            self.assertEqual(times_table(table, told), unit(m, leibniz(table)))

    def test_great(self):
        rng = random.Random(20)
        table = tuple(tuple(digits(rng, 200) for _ in range(9)) for _ in range(9))
        self.assertEqual(times_table(adjoint(table), table), unit(9, determinant(table)))


class Rank(unittest.TestCase):
    def test_by_hand(self):
        self.assertEqual(rank(()), 0)
        self.assertEqual(rank(((),)), 0)
        self.assertEqual(rank(((), (), ())), 0)
        self.assertEqual(rank(((0, 0),)), 0)
        self.assertEqual(rank(((0, 2), (0, 3))), 1)
        self.assertEqual(rank(((0, 2), (1, 3), (5, 5))), 2)
        self.assertEqual(rank(rows=((1,),)), 1)

    def test_random(self):
        rng = random.Random(21)
        for _ in range(300):
            width, many = rng.randint(0, 9), rng.randint(0, 20)
            base = [tuple(rng.randint(-3, 3) for _ in range(width)) for _ in range(rng.randint(1, 6))]
            rows = []
            for _ in range(many):
                picks = [rng.randint(-2, 2) for _ in base]
                rows.append(tuple(sum(n * row[j] for n, row in zip(picks, base)) for j in range(width)))
            self.assertEqual(rank(tuple(rows)), gauss_rank(rows))

    def test_great(self):
        rng = random.Random(22)
        rows = tuple(tuple(digits(rng, 200) for _ in range(9)) for _ in range(20))
        self.assertEqual(rank(rows), 9)
        rows = tuple(tuple(row[j] for j in (0, 1, 2, 3, 3, 3, 0, 1, 2)) for row in rows)
        self.assertEqual(rank(rows), 4)


class Solved(unittest.TestCase):
    def test_by_hand(self):
        self.assertEqual(solved(((2, 0), (0, 4)), (1, 6)), ((1, 2), (3, 2)))
        self.assertEqual(solved((), ()), ())
        self.assertEqual(solved(((-2,),), (6,)), ((-3, 1),))
        self.assertEqual(solved(table=((3,),), column=(0,)), ((0, 1),))
        self.assertEqual(parts_of(((1, 1), (1, -1)), (1, 0)), ((1, 1), 2))
        self.assertEqual(parts_of(((-2,),), (6,)), ((-6,), 2))
        self.assertEqual(parts_of((), ()), ((), 1))
        self.assertEqual(parts_of(rays=((1,),), w=(4,)), ((4,), 1))

    def test_singular(self):
        for table in (((0,),), ((1, 2), (2, 4)), ((0, 0), (0, 0)), ((1, 2, 3), (4, 5, 6), (7, 8, 9))):
            v = (0,) * len(table)
            self.assertRaises(Singular, solved, table, v)
            self.assertRaises(Singular, parts_of, table, v)

    def check(self, table, v):
        m = len(table)
        told = tuple(Fraction(*x) for x in solved(table, v))
        self.assertEqual(times_column(table, told), v)
        for x, (a, b) in zip(told, solved(table, v)):
            self.assertEqual((x.numerator, x.denominator), (a, b))
        numbers, size = parts_of(table, v)
        self.assertEqual(size, abs(determinant(table)))
        self.assertEqual(times_row(numbers, table), tuple(size * entry for entry in v))
        self.assertEqual(len(numbers), m)

    def test_random(self):
        rng = random.Random(23)
        for _ in range(300):
            m = rng.randint(0, 6)
            table = table_of(rng, m)
            if leibniz(table) != 0:
                self.check(table, tuple(rng.randint(-9, 9) for _ in range(m)))

    def test_great(self):
        rng = random.Random(24)
        table = tuple(tuple(digits(rng, 200) for _ in range(9)) for _ in range(9))
        self.check(table, tuple(digits(rng, 200) for _ in range(9)))
