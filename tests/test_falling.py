import random
import unittest
from itertools import product

from pointtally.falling import children, empty_paper, is_empty_paper
from pointtally.forms import lowered
from pointtally.grids import divided_grid, grid_within, leading, meet, point_at, whole_grid
from tests.oracles import has, no_fractions, place, points_in, value_of
from tests.test_pieces import random_piece
from tests.tools import JUNK, cube, deep_nest


def told_children(piece):
    """Return the children as the document tells them, rows being made by their values at single points."""
    (k, d, rows), grid = piece
    m = k + d
    room = (k, d - 1) if d else (k - 1, 0)
    front = leading(grid, m - 1)
    lower = [(row[-1], [-entry for entry in row[:-1]]) for row in rows if row[-1] > 0]
    upper = [(-row[-1], list(row[:-1])) for row in rows if row[-1] < 0]
    other = [row[:-1] for row in rows if row[-1] == 0]
    if not lower or not upper:
        return (((*room, tuple(other)), front),)
    found = []
    for i, j in product(range(len(lower)), range(len(upper))):
        (a, low), (b, high) = lower[i], upper[j]
        for r, s in product(range(a), range(b)):
            first = divided_grid(m - 1, a, (low[0] + r, *low[1:]))
            second = divided_grid(m - 1, b, (high[0] - s, *high[1:]))
            inner = None if first is None or second is None else meet(first, second)
            if inner is None:
                continue
            made = list(other)
            for g, (c, form) in enumerate(lower):
                if g != i:
                    made.append(tuple(c * x - a * y - (g < i and n == 0) for n, (x, y) in enumerate(zip(low, form))))
            for h, (c, form) in enumerate(upper):
                if h != j:
                    made.append(tuple(b * x - c * y - (h < j and n == 0) for n, (x, y) in enumerate(zip(form, high))))
            made.append(tuple(a * (y - s * (n == 0)) - b * (x + r * (n == 0)) for n, (x, y) in enumerate(zip(low, high))))
            own = grid_within(front, inner)
            kept = []
            for row in made:
                led = led_by_values(row, front, own)
                if led not in kept:
                    kept.append(led)
            found.append(((*room, tuple(kept)), own))
    return tuple(found)


def led_by_values(row, grid, inner):
    """Return a row over the letters of grid over those of inner, lowered."""
    m = len(inner[1])
    values = []
    for j in range(-1, m):
        t = point_at(inner, tuple(int(i == j) for i in range(m)))
        values.append(value_of(row, place(grid, t)))
    return lowered((values[0], *(value - values[0] for value in values[1:])))


class Children(unittest.TestCase):
    def test_by_hand(self):
        # 2 y from x on, 3 y up to 5 + x, x from -7 on.
        piece = ((0, 2, ((0, -1, 2), (7, 1, 0), (5, 1, -3))), whole_grid(2))
        told = children(piece)
        self.assertEqual(len(told), 6)
        self.assertEqual(told[0], ((0, 1, ((1, 1), (1, -1))), (((6,),), (4,))))
        # r = 0, s = 1: x is even and 3 divides 4 + x, so x is 2 + 6 z; 10 - 2 - x is 6 - 6 z.
        self.assertEqual(told[1], ((0, 1, ((1, 1), (1, -1))), (((6,),), (2,))))
        # r = 1, s = 2: x is odd and 3 divides 3 + x, so x is 3 + 6 z; 10 - 4 - 3 - x is - 6 z.
        self.assertEqual(told[5], ((0, 1, ((1, 1), (0, -1))), (((6,),), (3,))))

    def test_one_kind_of_bound(self):
        rows = ((4, 0, 3), (1, 2, 0), (1, 2, 0), (9, 3, 2))
        grid = (((2, 0), (1, 3)), (1, 2))
        told = (((0, 1, ((1, 2), (1, 2))), (((2,),), (1,))),)
        self.assertEqual(children(((0, 2, rows), grid)), told)
        self.assertEqual(children(((0, 2, tuple((a, b, -c) for a, b, c in rows)), grid)), told)
        self.assertEqual(children(((1, 1, ((4, 5, 0),)), whole_grid(2))), (((1, 0, ((4, 5),)), whole_grid(1)),))
        self.assertEqual(children(piece=((0, 1, ()), (((5,),), (3,)))), (((0, 0, ()), ((), ())),))

    def test_parameters_fall(self):
        told = children(((2, 0, ((0, 1, 1), (3, 0, -1))), whole_grid(2)))
        self.assertEqual(told, (((1, 0, ((3, 1),)), whole_grid(1)),))
        # 2 y from 1 on and 2 y up to 1: just r = 1 and s = 1 make both whole, and 2 * 0 - 2 * 2 is left.
        self.assertEqual(children(((1, 0, ((-1, 2), (1, -2))), whole_grid(1))), (((0, 0, ((-4,),)), ((), ())),))
        # 2 y from 1 on and 2 y up to 2: of r and s just 1 and 0 make both whole.
        self.assertEqual(children(((1, 0, ((-1, 2), (2, -2))), whole_grid(1))), (((0, 0, ((0,),)), ((), ())),))

    def test_equal_bounds_count_once(self):
        piece = ((0, 2, ((0, -1, 1), (0, -1, 1), (0, 1, 1), (9, 0, -1), (9, 0, -1))), whole_grid(2))
        for t in range(-12, 13):
            self.assertEqual(sum(has(child, (t,)) for child in children(piece)), int(abs(t) <= 9))

    def test_random(self):
        rng = random.Random(341)
        seen = 0
        for _ in range(400):
            k, d = rng.choice(((0, 1), (1, 0), (1, 1), (0, 2), (2, 0), (1, 2)))
            piece = random_piece(rng, k, d)
            told = children(piece)
            self.assertEqual(told, told_children(piece))
            seen += len(told)
        self.assertGreater(seen, 500)

    def test_points(self):
        rng = random.Random(342)
        for _ in range(60):
            k, d = rng.choice(((0, 1), (1, 1), (0, 2), (1, 0), (2, 0)))
            (_, _, rows), grid = random_piece(rng, k, d)
            m = k + d
            # Bounds on the last letter's place make it sure that a box has all points.
            rows += ((6, *[0] * (m - 1), 1), (6, *[0] * (m - 1), -1))
            piece = ((k, d, rows), grid)
            told = children(piece)
            for t in cube(m - 1, -4, 4):
                there = any(has(piece, (*t, y)) for y in range(-60, 61))
                self.assertEqual([has(child, t) for child in told].count(True), int(there))


def checks(piece, paper):
    """Tell whether a paper made by the program is one, told apart from the program."""
    (_, _, rows), _ = piece
    word, inner = paper
    if word == "never":
        total = [sum(w * row[n] for w, row in zip(inner, rows, strict=True)) for n in range(len(piece[1][1]) + 1)]
        return min(inner, default=0) >= 0 and total[0] < 0 and not any(total[1:])
    sons = told_children(piece)
    return word == "fall" and len(sons) == len(inner) and all(map(checks, sons, inner))


THIN = ((0, 2, ((-1, 2, 2), (1, -2, -2), (9, 1, 0), (9, -1, 0))), whole_grid(2))
NO_RANGE = ((0, 1, ((-1, 3), (2, -3))), whole_grid(1))


class EmptyPaper(unittest.TestCase):
    def test_by_hand(self):
        self.assertEqual(empty_paper(NO_RANGE), ("fall", (("never", (1,)),)))
        self.assertEqual(empty_paper(((0, 1, ((-3, 1), (2, -1))), whole_grid(1))), ("never", (1, 1)))
        self.assertIsNone(empty_paper(((0, 0, ((0,),)), ((), ()))))
        self.assertEqual(empty_paper(((0, 0, ((4,), (-2,)), ), ((), ()))), ("never", (0, 1)))
        self.assertIsNone(empty_paper(piece=((2, 1, ()), whole_grid(3))))
        self.assertTrue(checks(THIN, empty_paper(THIN)))

    def test_far_and_thin(self):
        far = 10 ** 9
        # A long wedge without whole points: between 2 x and 2 x + 1 there is none of 2 y + 1 .. 2 y + 2, and so on.
        piece = ((0, 2, ((-1, 6, -4), (1, -6, 4), (far, 1, 0), (far, -1, 0))), whole_grid(2))
        paper = empty_paper(piece)
        self.assertIs(is_empty_paper(piece, paper), True)
        self.assertIsNone(empty_paper(((0, 2, ((-2, 6, -4), (3, -6, 4), (far, 1, 0))), whole_grid(2))))

    def test_random(self):
        rng = random.Random(343)
        empty = 0
        for _ in range(250):
            k, d = rng.choice(((0, 1), (1, 1), (0, 2), (1, 0)))
            (_, _, rows), grid = random_piece(rng, k, d)
            m = k + d
            for j in range(m):
                for sign in (1, -1):
                    rows += ((rng.randint(0, 2), *[sign * (i == j) for i in range(m)]),)
            piece = ((k, d, rows), grid)
            paper = empty_paper(piece)
            there = any(all(value_of(row, y) >= 0 for row in rows) for y in cube(m, -2, 2))
            self.assertEqual(paper is None, there)
            if paper is not None:
                empty += 1
                self.assertTrue(checks(piece, paper))
                self.assertIs(is_empty_paper(piece, paper), True)
        self.assertGreater(empty, 40)

    def test_not_its_own(self):
        never = ((0, 1, ((-3, 1), (2, -1))), whole_grid(1))
        self.assertIs(is_empty_paper(never, ("never", (7, 7))), True)
        # Where weights serve, the children serve as well.
        self.assertIs(is_empty_paper(never, ("fall", (("never", (3,)),))), True)
        self.assertIs(is_empty_paper(piece=never, value=("never", (0, 1))), False)

    def test_bent(self):
        piece = ((0, 1, ((-3, 1), (2, -1), (5, 0))), whole_grid(1))
        self.assertIs(is_empty_paper(piece, ("never", (1, 1, 0))), True)
        for bad in (("never", (1, 1)), ("never", (1, 1, 0, 0)), ("never", (1, 1, -1)), ("never", (True, 1, 0)), ("never", [1, 1, 0]),
                    ("never", (0, 0, 0)), ("never", (1, 2, 0)), ("never", (2, 1, 0)), ("ever", (1, 1, 0)), ("never", (1, 1, 0), 0),
                    ("never", (1, 1, 1)), ["never", (1, 1, 0)], ("fall", (1, 1, 0)), ("fall", ()), ("never",), ("fall",),
                    ("fall", (("never", (1, 0)), ("never", (1, 0)))), ("fall", [("never", (0, 1))]), ("never", (1.0, 1, 0))):
            self.assertIs(is_empty_paper(piece, bad), False, bad)
        for bad in JUNK + (deep_nest(190), ("fall", deep_nest(190))):
            self.assertIs(is_empty_paper(piece, bad), False, bad)
        self.assertIs(is_empty_paper(((0, 0, ((-1,),)), ((), ())), ("fall", ())), False)
        self.assertIs(is_empty_paper(((0, 0, ((-1,),)), ((), ())), ("never", (1,))), True)
        self.assertIs(is_empty_paper(((0, 0, ()), ((), ())), ("never", ())), False)

    def test_bent_within(self):
        paper = empty_paper(THIN)
        self.assertEqual(paper[0], "fall")
        self.assertIs(is_empty_paper(THIN, paper), True)
        for i in range(len(paper[1])):
            for bad in (("never", ()), None, ("fall", ())):
                inner = paper[1][:i] + (bad,) + paper[1][i + 1:]
                self.assertIs(is_empty_paper(THIN, ("fall", inner)), bad == paper[1][i])
        self.assertIs(is_empty_paper(THIN, ("fall", paper[1][1:])), not paper[1])
        with_point = ((0, 2, THIN[0][2][1:]), THIN[1])
        self.assertIs(is_empty_paper(with_point, paper), False)

    def test_no_fractions_agrees(self):
        rng = random.Random(344)
        for _ in range(100):
            piece = random_piece(rng, 1, 1)
            if no_fractions(piece[0][2]):
                self.assertEqual(empty_paper(piece)[0], "never")
                self.assertEqual(points_in((piece,), -5, 5), set())


if __name__ == "__main__":
    unittest.main()
