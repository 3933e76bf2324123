import random
import unittest
from fractions import Fraction
from itertools import product

from pointtally.addings import settled
from pointtally.corners import bases, corner, feasible_rows
from pointtally.directions import direction, is_direction
from pointtally.edges import edges
from pointtally.errors import NotBounded, NotPaper
from pointtally.halls import conditions, in_hall
from pointtally.halltallies import hall_count, hall_paper, hall_tally, is_hall_paper, leaf_parts, tally_by
from pointtally.leaves import leaf_sum
from pointtally.rays import box, has_ray
from pointtally.tallies import tally_breach
from pointtally.trees import leaves, tree_rays
from tests.oracles import poly_at, random_poly, tally_at, value_of
from tests.test_corners import TRIANGLE, at_corner
from tests.test_trees import other_tree
from tests.tools import JUNK, deep_nest, leibniz, random_form, replaced_everywhere

LINE = (1, 1, ((0, 0, 1), (0, 1, -2)))


def random_hall(rng, k, d, high=3):
    """Return a random hall without a ray."""
    while True:
        rows = [random_form(rng, k + d, high) for _ in range(rng.randint(0, 3))]
        for j in range(k, k + d):
            for sign in (1, -1):
                if rng.randint(0, 5):
                    front = [rng.randint(-1, 1) for _ in range(k)]
                    rows.append((rng.randint(0, 4), *front, *[sign * rng.randint(1, 2) * (i == j) for i in range(k, k + d)]))
        rng.shuffle(rows)
        hall = (k, d, tuple(rows))
        if not has_ray(*hall):
            return hall


def points(hall, p):
    """Return all points of a hall at p."""
    told = box(*hall, p)
    return [] if told is None else [x for x in product(*(range(a, b + 1) for a, b in told)) if in_hall(hall, p, x)]


def other_paper(rng, hall):
    """Return a paper that the program itself would not have made."""
    entries, vectors = [], []
    for basis in bases(hall):
        told = settled(hall[0], feasible_rows(hall, basis) + conditions(hall))
        if told[0] == "factors" and rng.randint(0, 2):
            entries.append(("never", tuple(3 * factor for factor in told[1])))
        else:
            rays = edges(hall, basis)
            tree = other_tree(rng, rays)
            entries.append(("tree", tree))
            vectors += tree_rays(rays, tree)
    while True:
        lam = tuple(rng.randint(-40, 40) for _ in range(hall[1]))
        if is_direction(lam, hall[1], vectors):
            return (lam, tuple(entries))


class Papers(unittest.TestCase):
    def test_by_hand(self):
        told = hall_paper(LINE)
        self.assertEqual(told[1], (("tree", ()), ("tree", ())))
        self.assertIs(is_hall_paper(LINE, ((-7,), (("tree", ()), ("tree", ())))), True)
        self.assertIs(is_hall_paper(hall=LINE, value=((0,), (("tree", ()), ("tree", ())))), False)
        nowhere = (1, 1, ((0, 0, 1), (-1, 0, -1)))
        self.assertEqual([word for word, _ in hall_paper(nowhere)[1]], ["never", "never"])
        self.assertIs(is_hall_paper(nowhere, ((0,), (("never", (5,)), ("never", (1,))))), True)
        self.assertIs(is_hall_paper(nowhere, ((1,), (("tree", ()), ("never", (1,))))), True)
        self.assertIs(is_hall_paper(nowhere, ((0,), (("tree", ()), ("never", (1,))))), False)
        self.assertIs(is_hall_paper(nowhere, ((1,), (("never", (0,)), ("never", (1,))))), False)
        self.assertIs(is_hall_paper(LINE, ((1,), (("never", (1,)), ("tree", ())))), False)

    def test_no_unknowns(self):
        hall = (1, 0, ((3, -1), (0, 1)))
        self.assertEqual(hall_paper(hall), ((), (("tree", ()),)))
        self.assertIs(is_hall_paper(hall, ((), (("tree", ()),))), True)
        for bad in (((), ()), ((), (("tree", ((), ())),)), ((1,), (("tree", ()),)), ((), (("never", (1, 1)),))):
            self.assertIs(is_hall_paper(hall, bad), False)
        never = (1, 0, ((3, -1), (-4, 1)))
        self.assertIs(is_hall_paper(never, ((), (("never", (2, 2)),))), True)
        self.assertEqual(tally_by(never, ((), (("never", (2, 2)),))), ())
        for p in range(-1, 6):
            self.assertEqual(hall_count(hall, (p,)), int(0 <= p <= 3))
            self.assertEqual(tally_at(hall_tally(hall), (p,)), int(0 <= p <= 3))
            self.assertEqual(tally_at(hall_tally(hall, (((2, 3), (2,)),)), (p,)), Fraction(2 * p * p, 3) if 0 <= p <= 3 else 0)
            self.assertEqual(tally_at(tally_by(hall, hall_paper(hall)), (p,)), int(0 <= p <= 3))
        self.assertEqual(hall_count((0, 0, ()), ()), 1)
        self.assertEqual(hall_count((0, 0, ((-1,),)), ()), 0)

    def test_rays(self):
        for wide in ((0, 1, ((0, 1),)), (1, 2, ((0, 0, 1, 0), (0, 0, -1, 0))), (1, 1, ()), (0, 1, ((-1, 0),)), (0, 2, ((0, 1, -1), (-1, -1, 1)))):
            self.assertRaises(NotBounded, hall_paper, wide)
            self.assertRaises(NotBounded, hall_tally, wide)
            self.assertRaises(NotBounded, hall_count, wide, (0,) * wide[0])
            for value in ((1,), ()), ((1,), (("tree", ()),)), None:
                self.assertIs(is_hall_paper(wide, value), False)
                self.assertRaises(NotPaper, tally_by, wide, value)

    def test_random(self):
        rng = random.Random(491)
        nevers = 0
        for _ in range(60):
            hall = random_hall(rng, rng.randint(0, 2), rng.randint(0, 3))
            paper = hall_paper(hall)
            self.assertIs(is_hall_paper(hall, paper), True)
            nevers += str(paper).count("never")
            self.assertIs(is_hall_paper(hall, other_paper(rng, hall)), True)
        self.assertGreater(nevers, 20)

    def test_bent(self):
        rng = random.Random(492)
        for _ in range(25):
            hall = random_hall(rng, rng.randint(0, 1), rng.randint(1, 2))
            lam, entries = hall_paper(hall)
            for i, (word, told) in enumerate(entries):
                for bad in (("tree", told) if word == "never" else ("never", told), ("leaf", told), (word, told, 0), [word, told], (word,),
                            (word, None), (word, (0,) * 5), None):
                    value = (lam, (*entries[:i], bad, *entries[i + 1:]))
                    self.assertIs(is_hall_paper(hall, value), False, (hall, value))
                self.assertIs(is_hall_paper(hall, (lam, entries[:i] + entries[i + 1:])), False)
            for bad in ((lam, (*entries, ("tree", ()))), (lam, list(entries)), [lam, entries], (lam, entries, ()), (list(lam), entries),
                        (lam[1:], entries), ((*lam, 1), entries), (None, entries), (lam,), ((True,) * len(lam), entries)):
                self.assertIs(is_hall_paper(hall, bad), False)
            if any(word == "tree" for word, _ in entries):
                self.assertIs(is_hall_paper(hall, ((0,) * len(lam), entries)), False)

    def test_other_values(self):
        for value in JUNK + (deep_nest(190), ((1,), deep_nest(190)), ((1,), (("tree", deep_nest(190)), ("tree", ())))):
            self.assertIs(is_hall_paper(LINE, value), False)
            for function in (leaf_parts, tally_by):
                with self.assertRaises(NotPaper) as caught:
                    function(LINE, value)
                self.assertEqual(caught.exception.path, ())
        good = hall_paper(LINE)
        for value in replaced_everywhere(good):
            self.assertIs(is_hall_paper(LINE, value), repr(value) == repr(good))


class Parts(unittest.TestCase):
    def test_by_hand(self):
        # x from 0 to p / 2, with the direction 1: the lower corner's edge is uphill, the upper one's downhill.
        told = leaf_parts(LINE, ((1,), (("tree", ()), ("tree", ()))))
        self.assertEqual(told, ((((0, 1),), -1, ((1,),), ((1, (-1, 0)),)), (((0, 1),), 1, ((-1,),), ((2, (-1, -1)),))))
        told = leaf_parts(hall=LINE, paper=((-1,), (("tree", ()), ("tree", ()))))
        self.assertEqual([sign for _, sign, _, _ in told], [1, -1])

    def test_random(self):
        rng = random.Random(501)
        for _ in range(40):
            k, d = rng.randint(0, 2), rng.randint(1, 3)
            hall = random_hall(rng, k, d)
            for paper in (hall_paper(hall), other_paper(rng, hall)):
                lam, entries = paper
                told = list(leaf_parts(hall, paper))
                for basis, (word, tree) in zip(bases(hall), entries):
                    for sign, rays in leaves(edges(hall, basis), tree) if word == "tree" else ():
                        rows, own_sign, own_rays, steps = told.pop(0)
                        self.assertEqual(rows, feasible_rows(hall, basis) + conditions(hall))
                        for ray in rays:
                            sign = -sign if sum(a * b for a, b in zip(lam, ray)) > 0 else sign
                        self.assertEqual((own_sign, own_rays), (sign, rays))
                        self.check_steps(hall, basis, rays, steps, tuple(rng.randint(-5, 5) for _ in range(k)))
                self.assertEqual(told, [])

    def check_steps(self, hall, basis, rays, steps, p):
        """Check that the steps tell the coordinates of the corner by the rays, rounded to what is below."""
        point = corner(hall, basis)
        self.assertEqual({n for n, _ in steps}, {point[0][2]})
        floors = [value_of(form, p) // n for n, form in steps]
        # The corner less the sum of s_j times ray j has coordinates above 0 and up to 1 by the rays.
        rest = []
        for i, (form, ts, n) in enumerate(point):
            number = Fraction(value_of(form, p), n) - sum(s * ray[i] for s, ray in zip(floors, rays))
            rest.append((number, *[Fraction(t, n) for t in ts]))
        for j in range(len(rays)):
            way = self.coordinate(rays, rest, j)
            zero = (0,) * len(way)
            self.assertTrue(zero < way < (1, *zero[1:]))
        self.assertFalse(any(at_corner(hall, basis, basis[0], p)))

    def coordinate(self, rays, rest, j):
        """Return coordinate j by rays of what rest tells, by Cramer."""
        whole = leibniz(rays)
        told = []
        for place in range(len(rest[0])):
            table = list(rays)
            table[j] = tuple(entry[place] for entry in rest)
            told.append(Fraction(leibniz(table)) / whole)
        return tuple(told)


class Tallies(unittest.TestCase):
    def test_tally_by(self):
        rng = random.Random(511)
        for _ in range(40):
            k, d = rng.randint(0, 2), rng.randint(0, 2)
            hall = random_hall(rng, k, d)
            weight = rng.choice((None, (), random_poly(rng, k + d, 4)))
            for paper in (hall_paper(hall), other_paper(rng, hall)):
                tally, parts = tally_by(hall, paper, weight), leaf_parts(hall, paper)
                self.assertEqual(len(tally), len(parts))
                self.assertIsNone(tally_breach(tally, k))
                for (rows, gates, steps, poly), (part_rows, sign, rays, part_steps) in zip(tally, parts):
                    own = tuple((1, tuple(int(i == j + 1) for i in range(k + 1))) for j in range(k))
                    self.assertEqual((rows, gates, steps), (part_rows, (), own + part_steps))
                    one = (((1, 1), (0,) * (k + d)),) if weight is None else weight
                    told = leaf_sum(k, rays, paper[0], one)
                    self.assertEqual(poly, tuple(((sign * a, b), exponents) for (a, b), exponents in told))
                for _ in range(4):
                    p = tuple(rng.randint(-5, 5) for _ in range(k))
                    wanted = sum(1 if weight is None else poly_at(weight, (*p, *x)) for x in points(hall, p))
                    self.assertEqual(tally_at(tally, p), wanted)
        self.assertEqual(tally_by(hall=LINE, paper=hall_paper(LINE), weight=None), tally_by(LINE, hall_paper(LINE)))

    def test_hall_tally(self):
        rng = random.Random(512)
        empty = full = 0
        for _ in range(90):
            k, d = rng.randint(0, 2), rng.randint(0, 3)
            hall = random_hall(rng, k, d)
            weight = rng.choice((None, None, (), random_poly(rng, k + d, 4)))
            tally = hall_tally(hall, weight)
            self.assertIsNone(tally_breach(tally, k))
            for _ in range(5):
                p = tuple(rng.randint(-5, 5) for _ in range(k))
                there = points(hall, p)
                empty += not there
                full += bool(there)
                self.assertEqual(tally_at(tally, p), sum(1 if weight is None else poly_at(weight, (*p, *x)) for x in there))
                self.assertEqual(hall_count(hall, p), len(there))
            far = tuple(rng.randint(-10 ** 40, 10 ** 40) for _ in range(k))
            self.assertEqual(tally_at(hall_tally(hall), far), hall_count(hall, far))
        self.assertGreater(min(empty, full), 40)

    def test_by_hand(self):
        for p in (-10 ** 40, -3, -1, 0, 1, 7, 10 ** 40 + 1):
            self.assertEqual(hall_count(LINE, (p,)), max(0, p // 2 + 1))
            self.assertEqual(tally_at(hall_tally(LINE), (p,)), max(0, p // 2 + 1))
            wanted = sum(p - 2 * y + 1 for y in range(p // 2 + 1)) if p < 100 else (p // 2 + 1) * (p - p // 2 + 1)
            self.assertEqual(hall_count(hall=TRIANGLE, p=(p,)), wanted)
            self.assertEqual(tally_at(hall_tally(hall=TRIANGLE, weight=None), (p,)), wanted)
        self.assertIs(type(hall_count(LINE, (7,))), int)
        self.assertEqual(hall_tally(LINE, ()), ())

    def test_thin(self):
        # 6 x + 10 y + 15 z = p, from 0 on.
        hall = (1, 3, ((0, -1, 6, 10, 15), (0, 1, -6, -10, -15), (0, 0, 1, 0, 0), (0, 0, 0, 1, 0), (0, 0, 0, 0, 1)))
        tally = hall_tally(hall)
        paper = tally_by(hall, hall_paper(hall))
        for p in (-30, -1, 0, 1, 7, 29, 30, 60, 91):
            wanted = sum(1 for y in range(10) for z in range(7) if (p - 10 * y - 15 * z) % 6 == 0 and p >= 10 * y + 15 * z)
            self.assertEqual(tally_at(tally, (p,)), wanted)
            self.assertEqual(tally_at(paper, (p,)), wanted)
            self.assertEqual(hall_count(hall, (p,)), wanted)

    def test_many_unknowns(self):
        # x_1 + .. + x_6 up to p, from 0 on; and a cube of six with a sum of at most p.
        hall = (1, 6, (*[(0, 0, *[int(i == j) for i in range(6)]) for j in range(6)], (0, 1, *[-1] * 6)))
        tally = hall_tally(hall)
        p = 10 ** 40
        wanted = (p + 1) * (p + 2) * (p + 3) * (p + 4) * (p + 5) * (p + 6) // 720
        self.assertEqual((tally_at(tally, (p,)), hall_count(hall, (p,))), (wanted, wanted))
        self.assertEqual([tally_at(tally, (q,)) for q in (-3, 0, 1, 2)], [0, 1, 7, 28])
        self.assertEqual(tally_at(tally_by(hall, hall_paper(hall)), (5,)), 462)

    def test_great_index(self):
        # 1000 x + 999 y + 997 z up to 1000 p.
        hall = (1, 3, ((0, 1000, -1000, -999, -997), (0, 0, 1, 0, 0), (0, 0, 0, 1, 0), (0, 0, 0, 0, 1)))
        tally = hall_tally(hall)
        for p in (0, 3, 11):
            wanted = sum((1000 * p - 999 * y - 997 * z) // 1000 + 1 for y in range(13) for z in range(13) if 1000 * p >= 999 * y + 997 * z)
            self.assertEqual((tally_at(tally, (p,)), hall_count(hall, (p,))), (wanted, wanted))
        self.assertEqual(direction(3, ((1, 0, 0),)), (1, 1, 1))


if __name__ == "__main__":
    unittest.main()
