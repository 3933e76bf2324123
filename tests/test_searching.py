import random
import unittest

from pointtally.grids import meet, whole_grid
from pointtally.matrices import determinant
from pointtally.neighbours import neighbours_of
from pointtally.reducing import reduced_rows
from pointtally.searching import least_from, solved_whole, span, whole_point, whole_points
from tests.oracles import no_fractions, value_of
from tests.test_grids import random_grid
from tests.tools import cube, random_form


def walls(m, reach):
    return tuple((reach, *[sign * (i == j) for i in range(m)]) for j in range(m) for sign in (1, -1))


class Points(unittest.TestCase):
    def test_random(self):
        rng = random.Random(701)
        for _ in range(300):
            m = rng.randint(0, 3)
            rows = tuple(random_form(rng, m) for _ in range(rng.randint(0, 5)))
            held = rows + walls(m, 4)
            there = [t for t in cube(m, -4, 4) if all(value_of(row, t) >= 0 for row in rows)]
            self.assertEqual(sorted(whole_points(m, held, 10 ** 6)), there)
            few = whole_points(m, held, 3)
            self.assertEqual(len(set(few)), min(3, len(there)))
            self.assertLessEqual(set(few), set(there))
            self.assertEqual(whole_point(m, held) is None, not there)
            point = whole_point(m, rows)
            if point is None:
                self.assertFalse(any(all(value_of(row, t) >= 0 for row in rows) for t in cube(m, -9, 9)))
            else:
                self.assertTrue(all(value_of(row, point) >= 0 for row in rows))
            form, start = random_form(rng, m), rng.randint(-5, 5)
            values = [value_of(form, t) for t in there if value_of(form, t) >= start]
            self.assertEqual(least_from(m, held, form, start), min(values, default=None))

    def test_long_and_thin(self):
        far = 10 ** 30
        rng = random.Random(702)
        for _ in range(40):
            m = rng.randint(2, 4)
            heads = [tuple(rng.randint(-12, 12) for _ in range(m)) for _ in range(m - 1)]
            rows = list(walls(m, far))
            for head in heads:
                first = rng.randint(-far, far)
                rows += [(-first, *head), (first + 1, *[-entry for entry in head])]
            point = whole_point(m, rows)
            if point is not None:
                self.assertTrue(all(value_of(row, point) >= 0 for row in rows))
        self.assertIsNone(whole_point(3, (*walls(3, far), (-1, 6, 10, -4), (1, -6, -10, 4))))
        self.assertIsNotNone(whole_point(3, (*walls(3, far), (-1, 6, 10, 15), (1, -6, -10, -15))))

    def test_triangle_without_points_long(self):
        # A prism of 10 ** 9 over a triangle that holds no whole point, along a slanted line.
        far = 10 ** 9
        rows = ((-1, 3, 0, 0), (-1, 0, 3, 0), (4, -3, -3, 0))
        lean = tuple((first, a, b, -3 * a - 5 * b + c) for first, a, b, c in rows)
        self.assertIsNone(whole_point(3, (*lean, (0, 0, 0, 1), (far, 0, 0, -1))))
        self.assertIsNotNone(whole_point(3, (*lean[:2], (7, *lean[2][1:]), (0, 0, 0, 1), (far, 0, 0, -1))))

    def test_span(self):
        rng = random.Random(703)
        for _ in range(100):
            m = rng.randint(1, 2)
            rows = tuple(random_form(rng, m) for _ in range(4))
            self.assertEqual(span(m, rows, (0,) * (m + 1)) is None, no_fractions(rows))
        self.assertEqual(span(1, ((-1, 2), (7, -3)), (1, 1)), ((3, 2), (10, 3)))
        self.assertEqual(span(1, ((-1, 2),), (0, -1)), (None, (-1, 2)))

    def test_solved_whole(self):
        rng = random.Random(704)
        for _ in range(150):
            m = rng.randint(1, 3)
            equations = tuple(random_form(rng, m, 4) for _ in range(rng.randint(0, 3)))
            told = solved_whole(m, equations)
            there = {t for t in cube(m, -4, 4) if not any(value_of(form, t) for form in equations)}
            if told is None:
                self.assertFalse(there)
                continue
            n, letters = told
            for z in cube(n, -2, 2):
                t = tuple(value_of(form, z) for form in letters)
                self.assertFalse(any(value_of(form, t) for form in equations))
            if n == 0:
                self.assertLessEqual(there, {tuple(form[0] for form in letters)})


class Reduced(unittest.TestCase):
    def test_random(self):
        rng = random.Random(705)
        for _ in range(100):
            m = rng.randint(1, 5)
            rows = tuple(tuple(rng.randint(-500, 500) for _ in range(m)) for _ in range(m))
            det = determinant(rows)
            if det:
                gram = [[sum(a * b for a, b in zip(one, other)) for other in rows] for one in rows]
                told = reduced_rows(gram)
                self.assertEqual(abs(determinant(told)), 1)
                size = 1
                for row in told:
                    short = [sum(n * line[j] for n, line in zip(row, rows)) for j in range(m)]
                    size *= sum(entry * entry for entry in short)
                self.assertLessEqual(size, 2 ** (m * (m - 1) // 2) * det * det * 2)


class Neighbouring(unittest.TestCase):
    def test_meeting(self):
        rng = random.Random(706)
        for _ in range(60):
            m = rng.randint(1, 2)
            pieces = [((0, m, ((i, *[0] * m),)), random_grid(rng, m, 3)) for i in range(8)]
            kept = neighbours_of(pieces[:4])
            kept.meeting(pieces[0][1])
            for piece in pieces[4:]:
                kept.put(piece)
            grid = rng.choice((random_grid(rng, m, 4), whole_grid(m)))
            self.assertEqual(kept.meeting(grid), [piece for piece in pieces if meet(piece[1], grid) is not None])


if __name__ == "__main__":
    unittest.main()
