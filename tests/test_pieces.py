import random
import unittest

from pointtally.errors import NotFit
from pointtally.forms import lowered
from pointtally.grids import meet, need_grid, place_in, place_map, whole_grid
from pointtally.pieces import is_in, on_grid
from tests.test_grids import holds, random_grid
from tests.tools import at, cube, random_form


def random_piece(rng, k, d):
    rows = tuple(random_form(rng, k + d, rng.choice((1, 4))) for _ in range(rng.randint(0, 4)))
    return ((k, d, rows), random_grid(rng, k + d, 3))


def has(piece, t):
    """Tell whether t is a point of a piece, written apart from the program."""
    (k, d, rows), grid = piece
    if not holds(grid, t):
        return False
    y = []
    for i, row in enumerate(grid[0]):
        y.append((t[i] - grid[1][i] - sum(a * b for a, b in zip(row, y))) // row[i])
    return all(at(row, y) >= 0 for row in rows)


class IsIn(unittest.TestCase):
    def test_by_hand(self):
        odd = ((0, 1, ((0, 1), (2, -1))), (((2,),), (1,)))
        self.assertEqual([t for t in range(-3, 9) if is_in((odd,), (t,))], [1, 3, 5])
        one = ((1, 1, ((0, 1, 0),)), whole_grid(2))
        self.assertIs(is_in((one,), (0, -7)), True)
        self.assertIs(is_in((one,), (-1, 7)), False)
        self.assertIs(is_in((), (4, 4)), False)
        self.assertIs(is_in((), ()), False)
        self.assertIs(is_in((((0, 0, ()), ((), ())),), ()), True)
        self.assertIs(is_in((((0, 0, ((-1,),)), ((), ())),), ()), False)
        self.assertIs(is_in(pieces=(odd,), t=(3,)), True)

    def test_not_fit(self):
        pieces = tuple(((k, d, ()), whole_grid(2)) for k, d in ((1, 1), (1, 1), (0, 2)))
        self.assertIs(is_in(pieces[:2], (0, 0)), True)
        self.assertRaises(NotFit, is_in, pieces, (0, 0))
        self.assertRaises(NotFit, is_in, pieces[1:], (0, 0))

    def test_random(self):
        rng = random.Random(54)
        for _ in range(150):
            k, d = rng.randint(0, 2), rng.randint(0, 2)
            pieces = tuple(random_piece(rng, k, d) for _ in range(rng.randint(0, 3)))
            for _ in range(30):
                t = tuple(rng.randint(-6, 6) for _ in range(k + d))
                self.assertEqual(is_in(pieces, t), any(has(piece, t) for piece in pieces))


class OnGrid(unittest.TestCase):
    def test_by_hand(self):
        piece = ((0, 1, ((0, 1), (9, -2), (0, 3), (5, 0), (4, 0))), whole_grid(1))
        told = ((0, 1, ((0, 1), (1, -1), (5, 0), (4, 0))), (((2,),), (1,)))
        self.assertEqual(on_grid(piece, (((2,),), (1,))), told)
        self.assertEqual(on_grid(piece, whole_grid(1))[0][2], ((0, 1), (4, -1), (5, 0), (4, 0)))
        self.assertIsNone(on_grid(told, (((2,),), (0,))))
        self.assertEqual(on_grid(piece=((0, 0, ((3,), (3,))), ((), ())), grid=((), ())), ((0, 0, ((3,),)), ((), ())))

    def test_not_fit(self):
        piece = ((1, 1, ((0, 1, 1),)), whole_grid(2))
        for m in (0, 1, 3):
            self.assertRaises(NotFit, on_grid, piece, whole_grid(m))

    def test_random(self):
        rng = random.Random(55)
        nones = 0
        for _ in range(300):
            k, d = rng.randint(0, 2), rng.randint(0, 2)
            m = k + d
            piece, grid = random_piece(rng, k, d), random_grid(rng, m, 3)
            told = on_grid(piece, grid)
            wide = cube(m, -3, 3)
            if told is None:
                nones += 1
                self.assertIsNone(meet(piece[1], grid))
                self.assertFalse(any(has(piece, t) and holds(grid, t) for t in wide))
                continue
            (told_k, told_d, rows), inner = told
            self.assertEqual((told_k, told_d), (k, d))
            self.assertEqual(need_grid(inner), meet(piece[1], grid))
            for t in wide:
                self.assertEqual(has(told, t), has(piece, t) and holds(grid, t))
            self.assertEqual(rows, self.made(piece, inner))
        self.assertGreater(nones, 30)

    def made(self, piece, inner):
        """Return the rows led over by their values at single points, lowered, each once."""
        (_, _, rows), grid = piece
        m = len(inner[1])
        table, start = place_map(grid, inner)
        found = []
        for row in rows:
            first = at(row, start)
            steps = [at(row, tuple(w + line[j] for w, line in zip(start, table))) - first for j in range(m)]
            low = lowered(tuple(int(entry) for entry in (first, *steps)))
            if low not in found:
                found.append(low)
        return tuple(found)

    def test_place_in_agrees(self):
        rng = random.Random(56)
        for _ in range(50):
            piece, grid = random_piece(rng, 1, 2), random_grid(rng, 3, 3)
            told = on_grid(piece, grid)
            if told is not None:
                for t in cube(3, -2, 2):
                    z = place_in(told[1], t)
                    self.assertEqual(is_in((told,), t), z is not None and is_in((piece,), t))
