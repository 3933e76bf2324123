import random
import unittest

from pointtally.corners import corners_at
from pointtally.directions import cover, direction, highest, is_direction, uphill, uphill_counts
from pointtally.edges import all_edges, edges
from pointtally.errors import NotBounded, NotFit
from pointtally.halls import in_hall
from pointtally.rays import has_ray
from tests.test_corners import TRIANGLE, random_hall
from tests.tools import JUNK, cube


def bounded_halls(rng, many):
    """Yield random halls without a ray, and some p."""
    while many:
        k, d = rng.randint(0, 2), rng.randint(0, 3)
        hall = random_hall(rng, k, d, rng.randint(d, 6))
        if not has_ray(*hall):
            # Walls pushed outward make sure that most have points.
            hall = (k, d, tuple((row[0] + rng.randint(0, 5), *row[1:]) for row in hall[2]))
            many -= 1
            yield hall, tuple(rng.randint(-3, 3) for _ in range(k))


def some_directions(rng, hall, many):
    vectors = all_edges(hall)
    d = hall[1]
    told = [direction(d, vectors)]
    while len(told) < many:
        lam = tuple(rng.randint(-50, 50) for _ in range(d))
        if is_direction(lam, d, vectors):
            told.append(lam)
    return told


class Directions(unittest.TestCase):
    def test_is_direction(self):
        vectors = ((1, 0), (1, -2), (3, 1))
        for lam, told in (((1, 1), True), ((2, 1), False), ((0, 1), False), ((1, -3), False), ((-1, -1), True), ((1, 3), True),
                          ((10 ** 40, 1), True)):
            self.assertIs(is_direction(lam, 2, vectors), told)
        self.assertIs(is_direction((0, 0), 2, ()), True)
        self.assertIs(is_direction(value=(), d=0, vectors=()), True)
        for bad in (*JUNK, (1,), (1, 1, 1), [1, 1], (1, 1.0), (True, 1), (1, None)):
            self.assertIs(is_direction(bad, 2, vectors), False)
            if bad != ():
                self.assertIs(is_direction(bad, 0, ()), False)

    def test_direction(self):
        self.assertEqual(direction(0, ()), ())
        self.assertEqual(direction(1, ((3,), (-1,))), (1,))
        self.assertEqual(direction(3, ()), (1, 1, 1))
        self.assertEqual(direction(d=2, vectors=((1, 0), (1, -1), (2, -1), (6, -2))), (1, 4))
        self.assertEqual(direction(2, ((1, -1), (-2, 2))), (1, 2))
        rng = random.Random(441)
        for _ in range(100):
            d = rng.randint(1, 4)
            vectors = [tuple(rng.randint(-3, 3) for _ in range(d)) for _ in range(rng.randint(0, 20))]
            vectors = tuple(vector for vector in vectors if any(vector))
            told = direction(d, vectors)
            base = told[1] if d > 1 else 1
            self.assertEqual(told, tuple(base ** i for i in range(d)))
            self.assertLessEqual(base, (d - 1) * len(vectors) + 1)
            for number in range(1, base + 1):
                lam = [number ** i for i in range(d)]
                free = all(sum(a * b for a, b in zip(lam, vector)) for vector in vectors)
                self.assertEqual(free, number == base)

    def test_uphill(self):
        self.assertEqual(uphill((1, 4), ((1, 0), (3, -1), (-1, 1))), (0, 2))
        self.assertEqual(uphill(lam=(), vectors=()), ())
        self.assertEqual(uphill((-1,), ((1,), (2,))), ())


class Covers(unittest.TestCase):
    def test_by_hand(self):
        lam = direction(2, all_edges(TRIANGLE))
        self.assertEqual([cover(TRIANGLE, (4,), x, lam) for x in ((0, 0), (4, 0), (0, 2), (2, 1), (3, 1), (-1, 0))], [1, 1, 1, 1, 0, 0])
        self.assertEqual(highest(TRIANGLE, (4,), lam), (0, 2) if lam[1] > 2 * lam[0] else (1, 2))
        self.assertIsNone(highest(hall=TRIANGLE, p=(-1,), lam=lam))
        self.assertEqual(uphill_counts(TRIANGLE, (4,), lam), (1, 1, 1))
        self.assertEqual(uphill_counts(hall=TRIANGLE, p=(-1,), lam=lam), (0, 0, 0))
        self.assertEqual(cover(hall=TRIANGLE, p=(-1,), x=(0, 0), lam=lam), 0)

    def test_no_unknowns(self):
        hall = (1, 0, ((3, -1),))
        self.assertEqual([cover(hall, (p,), (), ()) for p in (3, 4)], [1, 0])
        self.assertEqual([highest(hall, (p,), ()) for p in (3, 4)], [(), None])
        self.assertEqual([uphill_counts(hall, (p,), ()) for p in (3, 4)], [(1,), (0,)])

    def test_random(self):
        rng = random.Random(451)
        inside = 0
        for hall, p in bounded_halls(rng, 60):
            for lam in some_directions(rng, hall, 3):
                for x in cube(hall[1], -2, 2):
                    told = cover(hall, p, x, lam)
                    self.assertEqual(told, int(in_hall(hall, p, x)))
                    inside += told
        self.assertGreater(inside, 200)

    def test_counts(self):
        rng = random.Random(452)
        seen = set()
        for hall, p in bounded_halls(rng, 80):
            told = set()
            for lam in some_directions(rng, hall, 4):
                counts = uphill_counts(hall, p, lam)
                told.add(counts)
                self.assertEqual(counts, counts[::-1])
                feasible = corners_at(hall, p)
                own = [len(uphill(lam, edges(hall, basis))) for basis in feasible]
                self.assertEqual(counts, tuple(own.count(n) for n in range(hall[1] + 1)))
                top = [basis for basis, n in zip(feasible, own) if n == 0]
                self.assertEqual(highest(hall, p, lam), top[0] if top else None)
                self.assertEqual(len(top), int(bool(feasible)))
            self.assertEqual(len(told), 1)
            seen |= told
        self.assertGreater(len(seen), 8)

    def test_thin(self):
        hall = (1, 2, ((0, -1, 2, 0), (0, 1, -2, 0), (0, 0, 0, 1), (3, 0, 0, -1)))
        for lam in some_directions(random.Random(453), hall, 4):
            for p in (4, 5):
                for x in cube(2, -1, 4):
                    self.assertEqual(cover(hall, (p,), x, lam), int(in_hall(hall, (p,), x)))

    def test_errors(self):
        bounded, wide = (0, 1, ((0, 1), (5, -1))), (0, 1, ((0, 1), (-3, 0)))
        for call in (lambda hall, lam: cover(hall, (), (0,), lam), lambda hall, lam: highest(hall, (), lam),
                     lambda hall, lam: uphill_counts(hall, (), lam)):
            for bad in (*JUNK, (0,), (1, 1), (True,), [1]):
                if bad not in ((1,), (-1,)):
                    self.assertRaises(NotFit, call, bounded, bad)
                # What goes on comes first, whatever lam is, and though there is no point.
                self.assertRaises(NotBounded, call, wide, bad)
            self.assertRaises(NotBounded, call, wide, (1,))
            self.assertRaises(NotBounded, call, (0, 1, ()), (1,))
            call(bounded, (1,))
        self.assertRaises(NotBounded, cover, (0, 2, ((0, 1, 1), (5, -1, -1))), (), (0, 0), (1, 2))


if __name__ == "__main__":
    unittest.main()
