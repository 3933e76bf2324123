import random
import unittest
from fractions import Fraction

from pointtally.cones import holds, replaced
from pointtally.directions import direction, is_direction
from pointtally.matrices import parts_of, rank
from pointtally.nearrows import index_of
from pointtally.shortparts import short_vector
from pointtally.trees import is_tree, leaves, leaves_hold, tree_of, tree_rays
from tests.tools import JUNK, cube, deep_nest, leibniz


def random_rays(rng, d, high):
    while True:
        rays = tuple(tuple(rng.randint(-high, high) for _ in range(d)) for _ in range(d))
        if leibniz(rays):
            return rays


def random_apex(rng, d):
    """Return a random apex, some of its ts shorter than others."""
    while True:
        width = d + rng.randint(0, 2)
        ts = [tuple(rng.randint(-3, 3) for _ in range(rng.randint(max(0, width - 2), width))) for _ in range(d)]
        if rank(tuple(t + (0,) * (width - len(t)) for t in ts)) == d:
            return tuple(((rng.randint(-9, 9),), t, rng.randint(1, 4)) for t in ts)


def sign_at(rays, lam, apex, x):
    """Tell what holds tells, with a fraction that is small enough in the place of each t."""
    d = len(rays)
    length = max([len(ts) for _, ts, _ in apex], default=0)
    small = [Fraction(1, 10 ** (30 * (i + 1))) for i in range(length)]
    way = [n - Fraction(form[0] + sum(t * s for t, s in zip(ts, small)), by) for n, (form, ts, by) in zip(x, apex)]
    whole = leibniz(rays)
    sign = 1
    for j in range(d):
        number = leibniz([*rays[:j], way, *rays[j + 1:]]) / Fraction(whole)
        assert number != 0
        rises = sum(a * b for a, b in zip(lam, rays[j])) > 0
        if (number > 0) == rises:
            return 0
        sign = -sign if rises else sign
    return sign


def levels(tree):
    return 1 + max(map(levels, tree[1]), default=0) if tree else 0


def vectors_of(tree):
    return [tree[0]] + [w for child in tree[1] for w in vectors_of(child)] if tree else []


class Cones(unittest.TestCase):
    def test_replaced(self):
        self.assertEqual(replaced(((1, 0), (0, 1)), 1, (2, 3)), ((1, 0), (2, 3)))
        self.assertEqual(replaced(rays=((5,),), i=0, w=(7,)), ((7,),))

    def test_by_hand(self):
        apex = (((0,), (-1, 0), 1), ((0,), (0, -1), 1))
        rays = ((1, 0), (0, 1))
        self.assertEqual(holds(rays, (-1, -1), apex, (0, 0)), 1)
        self.assertEqual(holds(rays, (-1, -1), apex, (-1, 0)), 0)
        self.assertEqual(holds(rays, (1, -1), apex, (-1, 0)), -1)
        self.assertEqual(holds(rays, (1, 1), apex, (-1, -4)), 1)
        self.assertEqual(holds(rays=rays, lam=(1, 1), apex=apex, x=(0, -4)), 0)
        self.assertEqual(holds((), (), (), ()), 1)
        # The apex is a half and less than any fraction below it: unlike lengths and an unlike D.
        self.assertEqual([holds(((3,),), (-1,), (((1,), (0, 0, -1), 2),), (x,)) for x in (0, 1)], [0, 1])
        self.assertEqual([holds(((3,),), (1,), (((4,), (1,), 2),), (x,)) for x in (2, 3)], [-1, 0])

    def test_random(self):
        rng = random.Random(461)
        signs = {}
        for _ in range(150):
            d = rng.randint(1, 3)
            rays, apex = random_rays(rng, d, 3), random_apex(rng, d)
            lam = tuple(rng.randint(-9, 9) for _ in range(d))
            if is_direction(lam, d, rays):
                for _ in range(40):
                    x = tuple(rng.randint(-6, 6) for _ in range(d))
                    told = holds(rays, lam, apex, x)
                    self.assertEqual(told, sign_at(rays, lam, apex, x))
                    signs[told] = signs.get(told, 0) + 1
        self.assertGreater(min(signs[1], signs[-1]), 200)


class Trees(unittest.TestCase):
    def test_by_hand(self):
        self.assertEqual(tree_of(()), ())
        self.assertEqual((leaves((), ()), tree_rays((), ()), leaves_hold((), (), (), (), ())), (((1, ()),), (), 1))
        self.assertEqual(tree_of(rays=((-1,),)), ())
        self.assertEqual(tree_of(((0, -1), (1, 7))), ())
        rays = ((1, 0), (1, 2))
        self.assertIs(is_tree(rays, ((1, 1), ((), ()))), True)
        self.assertIs(is_tree(rays, ((0, -1), ((), ()))), True)
        self.assertEqual(leaves(rays, ((1, 1), ((), ()))), ((1, ((1, 1), (1, 2))), (1, ((1, 0), (1, 1)))))
        self.assertEqual(leaves(rays=rays, tree=((0, -1), ((), ()))), ((1, ((0, -1), (1, 2))), (-1, ((1, 0), (0, -1)))))
        self.assertEqual(tree_rays(rays=rays, tree=((0, -1), ((), ()))), ((0, -1), (1, 0), (1, 2)))
        self.assertEqual(leaves(((3,),), ((1,), ((),))), ((1, ((1,),)),))
        self.assertEqual(leaves(((3,),), ((-2,), (((1,), ((),)),))), ((1, ((1,),)),))
        # A w along one ray has a part of 0 by the other one, so that there is one child.
        self.assertEqual(leaves(((2, 0), (0, 1)), ((1, 0), ((),))), ((1, ((1, 0), (0, 1))),))

    def test_tree_of(self):
        rng = random.Random(471)
        for d, high in ((1, 50), (2, 9), (2, 400), (3, 4), (3, 12), (4, 3), (5, 2)):
            for _ in range(12):
                rays = random_rays(rng, d, high)
                tree = tree_of(rays)
                self.assertEqual(tree == (), index_of(rays) == 1)
                self.assertIs(is_tree(rays, tree), True)
                self.assertLessEqual(levels(tree), index_of(rays).bit_length())
                great = max(abs(entry) for ray in rays for entry in ray)
                for w in vectors_of(tree):
                    self.assertLessEqual(max(map(abs, w)), d ** levels(tree) * great)
                found = leaves(rays, tree)
                for sign, inner in found:
                    self.assertIn(sign, (1, -1))
                    self.assertEqual(index_of(inner), 1)
                self.assertEqual(tree_rays(rays, tree), tuple(sorted({*rays, *vectors_of(tree)})))

    def test_great_index(self):
        rng = random.Random(472)
        for d, high in ((2, 10 ** 12), (3, 10 ** 4)):
            rays = random_rays(rng, d, high)
            tree = tree_of(rays)
            self.assertIs(is_tree(rays, tree), True)
            self.assertLess(len(leaves(rays, tree)), 500)

    def test_leaves_hold(self):
        rng = random.Random(473)
        for _ in range(40):
            d = rng.randint(1, 3)
            rays = random_rays(rng, d, 3)
            for tree in {tree_of(rays), other_tree(rng, rays)}:
                vectors = tree_rays(rays, tree)
                lam = direction(d, vectors)
                if rng.randint(0, 1):
                    lam = tuple(-entry for entry in lam)
                apex = random_apex(rng, d)
                for x in cube(d, -2, 2):
                    self.assertEqual(leaves_hold(rays, tree, lam, apex, x), holds(rays, lam, apex, x))

    def test_other_trees(self):
        rng = random.Random(474)
        unlike = 0
        for _ in range(100):
            rays = random_rays(rng, rng.randint(2, 3), 3)
            tree = other_tree(rng, rays)
            self.assertIs(is_tree(rays, tree), True)
            unlike += tree != tree_of(rays)
            self.assertTrue(all(index_of(inner) == 1 for _, inner in leaves(rays, tree)))
        self.assertGreater(unlike, 30)

    def test_bent(self):
        rng = random.Random(475)
        for _ in range(60):
            rays = random_rays(rng, rng.randint(1, 3), 5)
            tree = tree_of(rays)
            if tree:
                w, inner = tree
                for bad in ((), (w,), (w, inner, ()), (w, inner[1:]), (w, (*inner, ())), (w, list(inner)), [w, inner], (list(w), inner),
                            ((0,) * len(w), inner), ((0,) * len(w), ()), (w[1:], inner), ((*w, 0), inner), (w, ((w, inner),) * len(inner)),
                            ((True, *w[1:]), inner) if w[0] != 1 else (), (rays[0], inner), (w, None)):
                    self.assertIs(is_tree(rays, bad), False, (rays, bad))
            else:
                self.assertIs(is_tree(rays, (rays[0], ((),))), False)
                self.assertIs(is_tree(rays, []), False)
        # Here a child has the index of the rays themselves.
        self.assertIs(is_tree(((1, 0), (0, 3)), ((0, 1), ((),))), True)
        self.assertIs(is_tree(((1, 0), (0, 3)), ((1, 1), (((0, 1), ((),)), ()))), False)
        for value in JUNK + (deep_nest(190), ((1, 1), deep_nest(190))):
            self.assertIs(is_tree(((1, 0), (1, 2)), value), False)
            self.assertIs(is_tree(((1, 0), (0, 1)), value), value == () and type(value) is tuple)
            self.assertIs(is_tree((), value), value == () and type(value) is tuple)
        self.assertIs(is_tree(rays=((2,),), value=((1,), ((),))), True)

    def test_short_vector(self):
        rng = random.Random(476)
        for _ in range(120):
            d = rng.randint(1, 4)
            rays = random_rays(rng, d, rng.choice((2, 6, 30)))
            size = index_of(rays)
            if size > 1:
                w, numbers = short_vector(rays)
                self.assertEqual(parts_of(rays, w), (numbers, size))
                self.assertLessEqual(2 * max(map(abs, numbers)), size)
                self.assertGreater(max(numbers), 0)


def other_tree(rng, rays):
    """Return some tree of the rays, made by trying vectors: the better one of some that serve."""
    size = index_of(rays)
    if size == 1:
        return ()
    ways = []
    while len(ways) < 5:
        w = tuple(rng.randint(-4, 4) for _ in rays)
        numbers, _ = parts_of(rays, w)
        if any(w) and max(map(abs, numbers)) < size:
            ways.append((sum(map(abs, numbers)), w, numbers))
    _, w, numbers = min(ways)
    return (w, tuple(other_tree(rng, replaced(rays, i, w)) for i, number in enumerate(numbers) if number))


if __name__ == "__main__":
    unittest.main()
