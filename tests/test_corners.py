import random
import unittest
from fractions import Fraction
from itertools import combinations

from pointtally.corners import bases, corner, corners_at, feasible_rows, is_feasible
from pointtally.edges import all_edges, edges
from tests.tools import leibniz, random_form

TRIANGLE = (1, 2, ((0, 0, 1, 0), (0, 0, 0, 1), (0, 1, -1, -2)))


def random_hall(rng, k, d, many, high=3):
    rows = [random_form(rng, k + d, high) for _ in range(many)]
    for i in range(len(rows)):
        if rng.randint(0, 5) == 0:
            rows[i] = rows[i][:k + 1] + (0,) * d
    return (k, d, tuple(rows))


def at_corner(hall, basis, i, p):
    """Return a loosened row at a corner at p: its number, and what is less than any fraction, as Fractions."""
    k, _, rows = hall
    point = corner(hall, basis)
    total = Fraction(rows[i][0] + sum(a * b for a, b in zip(rows[i][1:k + 1], p)))
    ts = [Fraction(int(n == i and any(rows[i][k + 1:]))) for n in range(len(rows))]
    for entry, (form, own, size) in zip(rows[i][k + 1:], point):
        total += entry * Fraction(form[0] + sum(a * b for a, b in zip(form[1:], p, strict=True)), size)
        ts = [a + entry * Fraction(b, size) for a, b in zip(ts, own, strict=True)]
    return (total, *ts)


class Corners(unittest.TestCase):
    def test_by_hand(self):
        self.assertEqual(bases(TRIANGLE), ((0, 1), (0, 2), (1, 2)))
        self.assertEqual(corner(TRIANGLE, (0, 1)), (((0, 0), (-1, 0, 0), 1), ((0, 0), (0, -1, 0), 1)))
        # x = - t_1 and 2 y = p - x + t_3.
        self.assertEqual(corner(TRIANGLE, (0, 2)), (((0, 0), (-2, 0, 0), 2), ((0, 1), (1, 0, 1), 2)))
        self.assertEqual(corner(hall=TRIANGLE, basis=(1, 2)), (((0, 1), (0, 2, 1), 1), ((0, 0), (0, -1, 0), 1)))
        self.assertEqual(feasible_rows(TRIANGLE, (0, 1)), ((0, 1),))
        self.assertEqual(feasible_rows(TRIANGLE, (0, 2)), ((0, 1),))
        self.assertEqual(feasible_rows(hall=TRIANGLE, basis=(1, 2)), ((0, 1),))
        self.assertEqual(corners_at(TRIANGLE, (0,)), ((0, 1), (0, 2), (1, 2)))
        self.assertEqual(corners_at(hall=TRIANGLE, p=(-1,)), ())
        self.assertIs(is_feasible(hall=TRIANGLE, basis=(0, 1), p=(5,)), True)

    def test_last_of_equals_gives_way(self):
        # x from 0 on twice: at x = 0 only the row that is loosened less is kept.
        hall = (0, 1, ((0, 1), (0, 1), (3, -1)))
        self.assertEqual(feasible_rows(hall, (0,)), ((-1,), (3,)))
        self.assertEqual(feasible_rows(hall, (1,)), ((0,), (3,)))
        self.assertEqual(corners_at(hall, ()), ((1,), (2,)))

    def test_no_unknowns(self):
        hall = (1, 0, ((3, -1), (0, 1)))
        self.assertEqual(bases(hall), ((),))
        self.assertEqual((corner(hall, ()), feasible_rows(hall, ()), edges(hall, ()), all_edges(hall)), ((), (), (), ()))
        self.assertEqual([corners_at(hall, (p,)) for p in (-1, 0, 3, 4)], [(), ((),), ((),), ()])
        self.assertEqual(bases((0, 0, ())), ((),))

    def test_few_rows(self):
        self.assertEqual(bases((0, 2, ((1, 1, 0),))), ())
        self.assertEqual(bases((0, 2, ((1, 1, 2), (0, 2, 4), (9, -1, -2)))), ())
        self.assertEqual(bases((1, 1, ((1, 1, 0), (0, 3, 0)))), ())
        self.assertEqual(corners_at((1, 1, ()), (4,)), ())

    def test_thin(self):
        # 2 x = p: where p is odd the loosened rows hold at fractions, and there are corners all the same.
        hall = (1, 1, ((0, -1, 2), (0, 1, -2)))
        self.assertEqual(corners_at(hall, (4,)), ((0,), (1,)))
        self.assertEqual(corners_at(hall, (5,)), ((0,), (1,)))
        self.assertEqual(corners_at((1, 1, ((-1, -1, 2), (0, 1, -2))), (5,)), ())

    def test_random(self):
        rng = random.Random(411)
        below = 0
        for _ in range(150):
            k, d = rng.randint(0, 2), rng.randint(1, 3)
            hall = random_hall(rng, k, d, rng.randint(d, 6))
            rows = hall[2]
            told = [b for b in combinations(range(len(rows)), d) if leibniz([rows[i][k + 1:] for i in b]) != 0]
            self.assertEqual(bases(hall), tuple(told))
            p = tuple(rng.randint(-4, 4) for _ in range(k))
            feasible = []
            for basis in told:
                det = leibniz([rows[i][k + 1:] for i in basis])
                below += det < 0
                point = corner(hall, basis)
                self.assertEqual({size for _, _, size in point}, {abs(det)})
                for i in basis:
                    self.assertFalse(any(at_corner(hall, basis, i, p)))
                others = [i for i in range(len(rows)) if any(rows[i][k + 1:]) and i not in basis]
                forms = feasible_rows(hall, basis)
                self.assertEqual(len(forms), len(others))
                good = all(at_corner(hall, basis, i, p)[0] >= 0 for i in range(len(rows)) if not any(rows[i][k + 1:]))
                for i, form in zip(others, forms):
                    number, *ts = at_corner(hall, basis, i, p)
                    self.assertTrue(any(ts))
                    first = next(t for t in ts if t)
                    # The form is the number times the determinant, less 1 if what is less than any fraction is below 0.
                    self.assertEqual(form[0] + sum(a * b for a, b in zip(form[1:], p)), abs(det) * number - (first < 0))
                    good = good and (number, first) > (0, 0)
                self.assertIs(is_feasible(hall, basis, p), good)
                if good:
                    feasible.append(basis)
            self.assertEqual(corners_at(hall, p), tuple(feasible))
        self.assertGreater(below, 100)


class Edges(unittest.TestCase):
    def test_by_hand(self):
        self.assertEqual(edges(TRIANGLE, (0, 2)), ((2, -1), (0, -1)))
        self.assertEqual(edges(hall=TRIANGLE, basis=(1, 2)), ((-2, 1), (-1, 0)))
        self.assertEqual(all_edges(hall=TRIANGLE), ((-2, 1), (-1, 0), (0, -1), (0, 1), (1, 0), (2, -1)))
        self.assertEqual(all_edges((0, 1, ((0, 3), (5, 2), (9, -2)))), ((-1,), (1,)))
        self.assertEqual(all_edges((0, 2, ((0, 1, 0),))), ())

    def test_random(self):
        rng = random.Random(431)
        for _ in range(120):
            k, d = rng.randint(0, 2), rng.randint(1, 4)
            hall = random_hall(rng, k, d, rng.randint(d, 6), 4)
            found = set()
            for basis in bases(hall):
                told = edges(hall, basis)
                self.assertEqual(len(told), d)
                for j, edge in enumerate(told):
                    self.assertFalse(any(all(entry % n == 0 for entry in edge) for n in range(2, 30)))
                    for i, row in enumerate(basis):
                        product = sum(a * b for a, b in zip(hall[2][row][k + 1:], edge, strict=True))
                        self.assertTrue(product > 0 if i == j else product == 0)
                    found.add(edge)
            self.assertEqual(all_edges(hall), tuple(sorted(found)))


if __name__ == "__main__":
    unittest.main()
