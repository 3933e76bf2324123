import random
import unittest
from fractions import Fraction

from pointtally.addings import (
    bare, flat, follows, inside, is_inside, is_least, is_settled, least, settled, summed,
)
from pointtally.errors import NoPoint, NotFit
from tests.tools import JUNK, at, deep_nest, random_form, replaced_everywhere

BOX = ((0, 1, 0), (0, 0, 1), (4, -1, 0), (3, 0, -1))


def number_tuple(value, many):
    return type(value) is tuple and len(value) == many and all(type(entry) is int for entry in value)


def is_pair(value):
    if not number_tuple(value, 2) or value[1] < 1:
        return False
    return (Fraction(*value).numerator, Fraction(*value).denominator) == value


def is_point(m, rows, value):
    if type(value) is not tuple or len(value) != m or not all(is_pair(entry) for entry in value):
        return False
    return all(at(row, value) >= 0 for row in rows)


def total(m, rows, factors):
    return tuple(sum(n * row[j] for n, row in zip(factors, rows)) for j in range(m + 1))


def are_factors(rows, value):
    return number_tuple(value, len(rows)) and min(value, default=0) >= 0


def are_empty(m, rows, value):
    return are_factors(rows, value) and total(m, rows, value)[0] < 0 and not any(total(m, rows, value)[1:])


def naive_settled(m, rows, value):
    if type(value) is not tuple or len(value) != 2:
        return False
    if value[0] == "point":
        return is_point(m, rows, value[1])
    return value[0] == "factors" and are_empty(m, rows, value[1])


def naive_least(m, rows, f, value):
    if type(value) is not tuple or not value or type(value[0]) is not str:
        return False
    if value[0] == "empty":
        return len(value) == 2 and are_empty(m, rows, value[1])
    if value[0] == "falls":
        if len(value) != 3 or not is_point(m, rows, value[1]) or not number_tuple(value[2], m):
            return False
        along = [sum(a * b for a, b in zip(row[1:], value[2])) for row in rows + (f,)]
        return min(along[:-1], default=0) >= 0 and along[-1] < 0
    if value[0] != "least" or len(value) != 5:
        return False
    _, v, point, n, factors = value
    if not is_pair(v) or not is_point(m, rows, point) or at(f, point) != Fraction(*v):
        return False
    if type(n) is not int or n < 1 or not are_factors(rows, factors):
        return False
    return total(m, rows, factors) == (n * f[0] - n * Fraction(*v),) + tuple(n * entry for entry in f[1:])


def naive_inside(m, rows, value):
    if type(value) is not tuple or len(value) != 2:
        return False
    if value[0] == "inside":
        return is_point(m, rows, value[1]) and all(at(row, value[1]) > 0 for row in rows)
    if value[0] != "walls" or not are_factors(rows, value[1]) or not any(value[1]):
        return False
    return total(m, rows, value[1])[0] <= 0 and not any(total(m, rows, value[1])[1:])


def random_system(rng, high=4):
    """Return (m, rows): with a point or without, flat or full, some rows twice."""
    m, many = rng.randint(0, 5), rng.randint(0, 9)
    rows = [random_form(rng, m, high) for _ in range(many)]
    pick = rng.randint(0, 4)
    if pick == 0:
        rows = [(abs(row[0]),) + row[1:] for row in rows]
    if pick == 1:
        rows = [(0,) + row[1:] for row in rows]
    if pick == 2 and rows:
        rows.append(tuple(-entry for entry in rows[0]))
    if pick == 3 and len(rows) > 1:
        rows.append(tuple(a + b for a, b in zip(rows[0], rows[1])))
        rows.append(rows[0])
    return m, tuple(rows)


class Summed(unittest.TestCase):
    def test_by_hand(self):
        self.assertEqual(summed(1, ((1, 2), (3, -4)), (5, 2)), (11, 2))
        self.assertEqual(summed(2, (), ()), (0, 0, 0))
        self.assertEqual(summed(m=0, rows=((3,),), factors=(4,)), (12,))

    def test_not_fit(self):
        self.assertRaises(NotFit, summed, 1, ((1, 2),), ())
        self.assertRaises(NotFit, summed, 1, ((1, 2),), (1, 2))
        self.assertRaises(NotFit, summed, 1, (), (1,))


class Settled(unittest.TestCase):
    def test_by_hand(self):
        self.assertEqual(settled(0, ()), ("point", ()))
        self.assertEqual(settled(0, ((0,),)), ("point", ()))
        word, factors = settled(0, ((1,), (-2,)))
        self.assertEqual((word, factors[0], factors[1] > 0), ("factors", 0, True))
        self.assertEqual(settled(1, ((-3, 2), (3, -2))), ("point", ((3, 2),)))
        self.assertEqual(settled(1, ((-4, 2), (3, -2)))[0], "factors")
        self.assertEqual(settled(m=1, rows=())[0], "point")
        self.assertIs(is_settled(m=0, rows=(), value=("point", ())), True)

    def test_random(self):
        rng = random.Random(45)
        words = []
        for _ in range(600):
            m, rows = random_system(rng, rng.choice((2, 4, 10 ** 60)))
            told = settled(m, rows)
            words.append(told[0])
            self.assertTrue(naive_settled(m, rows, told), (m, rows, told))
            self.assertIs(is_settled(m, rows, told), True)
            self.assertEqual(settled(m, rows), told)
        self.assertGreater(words.count("point"), 100)
        self.assertGreater(words.count("factors"), 100)

    def test_other_values(self):
        self.assertIs(is_settled(2, BOX, ("point", ((1, 3), (5, 2)))), True)
        self.assertIs(is_settled(2, BOX, ("point", ((0, 1), (3, 1)))), True)
        self.assertIs(is_settled(2, BOX, ("point", ((-1, 100), (3, 1)))), False)
        self.assertIs(is_settled(2, BOX, ("point", ((2, 6), (5, 2)))), False)
        self.assertIs(is_settled(1, ((-1, 1), (0, -1)), ("factors", (7, 7))), True)
        self.assertIs(is_settled(1, ((-1, 1), (0, -1)), ("factors", (7, 6))), False)
        self.assertIs(is_settled(1, ((-1, 1), (0, -1)), ("factors", (0, 0))), False)
        self.assertIs(is_settled(1, ((-1, 1), (0, -1), (0, 0)), ("factors", (7, 7, -1))), False)
        self.assertIs(is_settled(1, ((0, 1), (0, -1)), ("factors", (7, 7))), False)

    def test_spoiled(self):
        for m, rows, value in (
            (2, BOX, ("point", ((1, 3), (5, 2)))), (1, ((-1, 1), (0, -1)), ("factors", (2, 2))), (0, (), ("point", ())),
        ):
            for wrong in (*replaced_everywhere(value, (0, 1, -1, ("point", ()))), *JUNK, deep_nest(200, value)):
                self.assertIs(is_settled(m, rows, wrong), naive_settled(m, rows, wrong), wrong)


class Least(unittest.TestCase):
    def test_by_hand(self):
        told = least(2, BOX, (1, 2, -3))
        self.assertEqual(told[:3], ("least", (-8, 1), ((0, 1), (3, 1))))
        self.assertEqual(least(1, ((-1, 3),), (0, 2))[:3], ("least", (2, 3), ((1, 3),)))
        word, point, ray = least(1, ((-1, 3),), (0, -2))
        self.assertEqual((word, ray[0] > 0), ("falls", True))
        self.assertEqual(least(1, ((-1, 1), (0, -1)), (0, 2))[0], "empty")
        self.assertEqual(least(0, (), (-7,)), ("least", (-7, 1), (), 1, ()))
        self.assertEqual(least(2, (), (5, 0, 0))[:2], ("least", (5, 1)))
        self.assertEqual(least(2, (), (5, 0, 1))[0], "falls")
        self.assertEqual(least(m=0, rows=(), f=(1,))[0], "least")
        self.assertIs(is_least(m=0, rows=(), f=(1,), value=("least", (1, 1), (), 3, ())), True)

    def test_random(self):
        rng = random.Random(46)
        words = []
        for _ in range(800):
            m, rows = random_system(rng, rng.choice((2, 4, 10 ** 60)))
            f = random_form(rng, m, 5)
            if rows and rng.randint(0, 1):
                f = total(m, rows, tuple(rng.randint(0, 2) for _ in rows))
            told = least(m, rows, f)
            words.append(told[0])
            self.assertTrue(naive_least(m, rows, f, told), (m, rows, f, told))
            self.assertIs(is_least(m, rows, f, told), True)
            self.assertEqual(least(m, rows, f), told)
        for word in ("least", "falls", "empty"):
            self.assertGreater(words.count(word), 100)

    def test_other_values(self):
        f = (0, 1, 0)
        self.assertIs(is_least(2, BOX, f, ("least", (0, 1), ((0, 1), (7, 3)), 5, (5, 0, 0, 0))), True)
        self.assertIs(is_least(2, BOX, f, ("least", (0, 1), ((1, 1), (7, 3)), 5, (5, 0, 0, 0))), False)
        self.assertIs(is_least(2, BOX, f, ("least", (0, 1), ((0, 1), (7, 3)), 5, (4, 0, 0, 0))), False)
        self.assertIs(is_least(2, BOX, f, ("least", (0, 1), ((0, 1), (7, 2)), 5, (5, 0, 0, 0))), False)
        self.assertIs(is_least(2, BOX, f, ("least", (1, 1), ((1, 1), (1, 1)), 5, (5, 0, 0, 0))), False)
        self.assertIs(is_least(2, BOX, f, ("least", (0, 1), ((0, 1), (1, 1)), 0, (0, 0, 0, 0))), False)
        half = ((-1, 2),)
        self.assertIs(is_least(1, half, (0, 1), ("least", (1, 2), ((1, 2),), 2, (1,))), True)
        self.assertIs(is_least(1, half, (0, 2), ("least", (1, 1), ((1, 2),), 3, (3,))), True)
        self.assertIs(is_least(1, half, (0, -1), ("falls", ((9, 2),), (4,))), True)
        self.assertIs(is_least(1, half, (0, -1), ("falls", ((1, 3),), (4,))), False)
        self.assertIs(is_least(1, half, (0, -1), ("falls", ((9, 2),), (0,))), False)
        self.assertIs(is_least(1, half, (0, 1), ("falls", ((9, 2),), (-4,))), False)
        self.assertIs(is_least(1, ((-1, 1), (0, -1)), (0, 1), ("empty", (3, 3))), True)

    def test_spoiled(self):
        half = ((-1, 2), (5, 0))
        for m, rows, f, value in (
            (1, half, (0, 1), ("least", (1, 2), ((1, 2),), 2, (1, 0))), (1, half, (0, -1), ("falls", ((9, 2),), (4,))),
            (1, ((-1, 1), (0, -1)), (0, 1), ("empty", (3, 3))), (2, BOX, (1, -1, 1), ("least", (-3, 1), ((4, 1), (0, 1)), 1, (0, 1, 1, 0))),
            (0, ((0,),), (2,), ("least", (2, 1), (), 1, (0,))),
        ):
            for wrong in (value, *replaced_everywhere(value, (0, 1, -1)), *JUNK, deep_nest(200, value)):
                self.assertIs(is_least(m, rows, f, wrong), naive_least(m, rows, f, wrong), wrong)


class Follows(unittest.TestCase):
    def test_by_hand(self):
        self.assertIs(follows(2, BOX, (0, 1, 1)), True)
        self.assertIs(follows(2, BOX, (7, -1, -1)), True)
        self.assertIs(follows(2, BOX, (6, -1, -1)), False)
        self.assertIs(follows(1, ((0, 1),), (1, -1)), False)
        self.assertIs(follows(1, ((-1, 1), (0, -1)), (-5, 0)), True)
        self.assertIs(follows(0, (), (0,)), True)
        self.assertIs(follows(0, (), (-1,)), False)
        self.assertIs(follows(m=1, rows=((0, 2),), row=(0, 5)), True)

    def test_random(self):
        rng = random.Random(47)
        told = []
        for _ in range(600):
            m, rows = random_system(rng)
            row = random_form(rng, m, 5)
            if rows and rng.randint(0, 1):
                row = total(m, rows, tuple(rng.randint(0, 2) for _ in rows))
                row = (row[0] + rng.randint(-1, 1),) + row[1:]
            found = least(m, rows, row)
            self.assertTrue(naive_least(m, rows, row, found))
            told.append(follows(m, rows, row))
            self.assertIs(told[-1], found[0] == "empty" or found[0] == "least" and found[1][0] >= 0)
        self.assertGreater(told.count(True), 150)
        self.assertGreater(told.count(False), 150)


class BareAndFlat(unittest.TestCase):
    def test_by_hand(self):
        self.assertEqual(bare(2, BOX), (0, 1, 2, 3))
        self.assertEqual(bare(2, BOX + ((7, -1, -1), (6, -1, -1))), (0, 1, 2, 3, 5))
        self.assertEqual(bare(1, ((0, 1), (0, 2), (0, 3))), (2,))
        self.assertEqual(bare(1, ((0, 1), (5, 0), (-1, 1))), (2,))
        self.assertEqual(bare(0, ((0,), (3,))), ())
        self.assertEqual(bare(2, ()), ())
        self.assertEqual(bare(2, ((0, 1, 1), (0, -1, -1), (0, 1, 1))), (1, 2))
        self.assertEqual(bare(m=1, rows=((0, 1),)), (0,))
        self.assertEqual(flat(2, BOX), ())
        self.assertEqual(flat(1, ((-1, 1), (1, -1), (0, 1))), (0, 1))
        self.assertEqual(flat(1, ((0, 0), (1, 0), (0, 1))), (0,))
        self.assertEqual(flat(0, ()), ())
        self.assertEqual(flat(m=1, rows=((0, 1), (0, -1))), (0, 1))

    def test_no_point(self):
        for m, rows in ((0, ((-1,),)), (1, ((-1, 1), (0, -1))), (2, ((-1, 0, 0), (0, 1, 0)))):
            self.assertRaises(NoPoint, bare, m, rows)
            self.assertRaises(NoPoint, flat, m, rows)

    def test_random(self):
        rng = random.Random(48)
        seen, some_flat, some_left_out = 0, 0, 0
        for _ in range(600):
            m, rows = random_system(rng, rng.choice((1, 2, 4, 10 ** 30)))
            if settled(m, rows)[0] == "factors":
                self.assertRaises(NoPoint, bare, m, rows)
                self.assertRaises(NoPoint, flat, m, rows)
                continue
            seen += 1
            kept = list(range(len(rows)))
            for i in range(len(rows)):
                rest = [j for j in kept if j != i]
                told = least(m, tuple(rows[j] for j in rest), rows[i])
                if told[0] == "least" and told[1][0] >= 0:
                    kept = rest
            self.assertEqual(bare(m, rows), tuple(kept))
            some_left_out += len(kept) < len(rows)
            found = []
            for i, row in enumerate(rows):
                told = least(m, rows, tuple(-entry for entry in row))
                if told[0] == "least" and told[1] == (0, 1):
                    found.append(i)
            self.assertEqual(flat(m, rows), tuple(found))
            some_flat += len(found) > 0
        self.assertGreater(seen, 250)
        self.assertGreater(some_flat, 60)
        self.assertGreater(some_left_out, 60)


class Inside(unittest.TestCase):
    def test_by_hand(self):
        self.assertEqual(inside(0, ()), ("inside", ()))
        self.assertEqual(inside(0, ((1,),)), ("inside", ()))
        self.assertEqual(inside(0, ((0,),))[0], "walls")
        self.assertEqual(inside(2, ())[0], "inside")
        self.assertEqual(inside(2, BOX)[0], "inside")
        self.assertEqual(inside(1, ((0, 1), (0, -1)))[0], "walls")
        self.assertEqual(inside(1, ((-1, 1), (0, -1)))[0], "walls")
        self.assertEqual(inside(m=1, rows=((-1, 2), (1, -1)))[0], "inside")
        self.assertIs(is_inside(m=1, rows=((-1, 2), (1, -1)), value=("inside", ((3, 4),))), True)

    def test_random(self):
        rng = random.Random(49)
        words = []
        for _ in range(600):
            m, rows = random_system(rng, rng.choice((2, 4, 10 ** 60)))
            told = inside(m, rows)
            words.append(told[0])
            self.assertTrue(naive_inside(m, rows, told), (m, rows, told))
            self.assertIs(is_inside(m, rows, told), True)
            self.assertEqual(inside(m, rows), told)
        self.assertGreater(words.count("inside"), 150)
        self.assertGreater(words.count("walls"), 150)

    def test_other_values(self):
        self.assertIs(is_inside(2, BOX, ("inside", ((1, 100), (29, 10)))), True)
        self.assertIs(is_inside(2, BOX, ("inside", ((0, 1), (29, 10)))), False)
        self.assertIs(is_inside(1, ((0, 1), (0, -1)), ("walls", (2, 2))), True)
        self.assertIs(is_inside(1, ((0, 1), (0, -1)), ("walls", (0, 0))), False)
        self.assertIs(is_inside(1, ((1, 1), (0, -1)), ("walls", (2, 2))), False)
        self.assertIs(is_inside(1, ((1, 1), (0, -1)), ("walls", (1, 1))), False)
        self.assertIs(is_inside(1, ((0, 1), (0, 1)), ("walls", (1, 1))), False)
        self.assertIs(is_inside(2, ((0, 1, 0), (0, -1, 1)), ("walls", (1, 1))), False)
        self.assertIs(is_inside(2, ((1, -1, 0), (0, 0, -1)), ("walls", (1, 1))), False)
        self.assertIs(is_inside(1, ((0, 0), (0, -1)), ("walls", (9, 0))), True)

    def test_spoiled(self):
        for m, rows, value in (
            (2, BOX, ("inside", ((1, 3), (5, 2)))), (1, ((-1, 1), (0, -1)), ("walls", (2, 2))), (0, (), ("inside", ())),
            (1, ((0, 0), (3, 1)), ("walls", (1, 0))),
        ):
            for wrong in (value, *replaced_everywhere(value, (0, 1, -1)), *JUNK, deep_nest(200, value)):
                self.assertIs(is_inside(m, rows, wrong), naive_inside(m, rows, wrong), wrong)


class Great(unittest.TestCase):
    def test_ten_letters_sixteen_rows(self):
        rng = random.Random(50)
        for high in (3, 10 ** 9, 10 ** 200):
            for kind in range(3):
                rows = tuple(random_form(rng, 10, high) for _ in range(16))
                if kind == 1:
                    rows = tuple((abs(row[0]),) + row[1:] for row in rows)
                if kind == 2:
                    rows = rows[:8] + tuple(tuple(-entry for entry in row) for row in rows[:8])
                f = random_form(rng, 10, high) if kind else total(10, rows, tuple(range(16)))
                self.assertTrue(naive_settled(10, rows, settled(10, rows)))
                self.assertTrue(naive_inside(10, rows, inside(10, rows)))
                told = least(10, rows, f)
                self.assertTrue(naive_least(10, rows, f, told))
                self.assertIs(is_least(10, rows, f, told), True)
                if told[0] != "empty":
                    kept = bare(10, rows)
                    left = tuple(rows[j] for j in kept)
                    for i in range(16):
                        if i not in kept:
                            self.assertTrue(follows(10, left, rows[i]))
                    self.assertEqual(flat(10, rows), tuple(range(16)) if kind == 2 else ())

    def test_great_boxes(self):
        """Sides of a box whose corners are far away, in ten letters, with the least value known."""
        far = 10 ** 150
        rows = tuple(tuple([far + j] + [-1 if i == j else 0 for i in range(10)]) for j in range(10))
        f = (0,) + (-1,) * 10
        self.assertEqual(least(10, rows, f)[1], (-10 * far - 45, 1))
        self.assertEqual(least(10, rows, (0,) + (1,) * 10)[0], "falls")
        self.assertEqual(bare(10, rows), tuple(range(10)))
