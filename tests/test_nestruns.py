import random
import unittest
from itertools import product

from pointtally.errors import NotFit, TooMany
from pointtally.nestruns import first_meet, peak, run, touches
from tests.walks import alive_at, counters_of, meeting_pairs, random_nest, walk

BARE = ("do", ())
# for i = 0 .. n - 1 { a[i] = ..; for j = i .. n - 1, 5 by 2 { .. = a[j] } }
PAIRS = ("nest", 1, (("loop", ((0, 0),), ((-1, 1),), 1, (
    ("do", (("write", "a", ((0, 0, 1),)),)),
    ("loop", ((0, 0, 1),), ((-1, 1, 0), (5, 0, 0)), 2, (("do", (("read", "a", ((0, 0, 0, 1),)),)),)))),))


def line(low, high, step=1, body=(BARE,)):
    return ("nest", 0, (("loop", ((low,),), ((high,),), step, body),))


class Runs(unittest.TestCase):
    def test_by_hand(self):
        self.assertEqual(run(PAIRS, (3,)), ((0, (0,)), (1, (0, 0)), (1, (0, 2)), (0, (1,)), (1, (1, 1)), (0, (2,)), (1, (2, 2))))
        self.assertEqual(touches(PAIRS, (2,)), ((0, (0,), "write", "a", (0,)), (1, (0, 0), "read", "a", (0,)),
                                                (0, (1,), "write", "a", (1,)), (1, (1, 1), "read", "a", (1,))))
        self.assertEqual(run(nest=PAIRS, p=(0,)), ())
        self.assertEqual(touches(nest=PAIRS, p=(-10 ** 40,)), ())
        self.assertEqual(run(("nest", 0, (BARE, BARE)), ()), ((0, ()), (1, ())))
        self.assertEqual(run(line(-5, 5, 6), ()), ((0, (-5,)), (0, (1,))))
        self.assertEqual(run(line(-1, -1), ()), ((0, (-1,)),))
        self.assertEqual(run(line(4, 3), ()), ())
        # The greatest of the lows, the least of the highs, and steps from there.
        both = ("nest", 1, (("loop", ((0, 1), (3, 0)), ((10, 0), (0, 2)), 3, (BARE,)),))
        self.assertEqual([[counters for _, counters in run(both, (n,))] for n in (1, 2, 4, 11)], [[], [(3,)], [(4,), (7,)], []])

    def test_conditions(self):
        nest = ("nest", 1, (("if", ("row", (-3, 1)), (BARE, ("loop", ((0, 0),), ((4, 0),), 1, (("if", ("divides", 2, (0, 1, 1)), (BARE,)),)))), BARE))
        self.assertEqual(run(nest, (2,)), ((2, ()),))
        self.assertEqual(run(nest, (3,)), ((0, ()), (1, (1,)), (1, (3,)), (2, ())))

    def test_random(self):
        rng = random.Random(751)
        rounds = 0
        for _ in range(150):
            k = rng.randint(0, 2)
            nest = random_nest(rng, k, 3, 4, (1, 1, 2, 6))
            for p in [tuple(rng.randint(-3, 5) for _ in range(k)) for _ in range(3)]:
                told = walk(nest, p)
                rounds += len(told)
                self.assertEqual(run(nest, p), tuple((s, counters) for s, counters, _ in told))
                self.assertEqual(touches(nest, p), tuple((s, counters, *touch) for s, counters, cells in told for touch in cells))
        self.assertGreater(rounds, 2000)

    def test_most_runs(self):
        self.assertEqual(len(run(line(1, 10000), ())), 10000)
        # Bodies count, not statements: here each has four, or none is done in any.
        self.assertEqual(len(run(line(1, 10000, 1, (BARE,) * 4), ())), 40000)
        self.assertEqual(run(line(1, 10000, 1, (("if", ("or",), (BARE,)),)), ()), ())
        square = ("nest", 1, (("loop", ((1, 0),), ((0, 1),), 1, (("loop", ((1, 0, 0),), ((99, 0, 0),), 1, (BARE,)),)),))
        self.assertEqual(len(run(square, (100,))), 9900)
        empty = ("nest", 1, (("loop", ((1, 0),), ((0, 1),), 1, (("loop", ((1, 0, 0),), ((0, 0, 0),), 1, (BARE,)),)),))
        self.assertEqual(run(empty, (10000,)), ())
        for nest, p in ((line(1, 10001), ()), (line(0, 60000, 6), ()), (square, (101,)), (empty, (10001,)), (square, (10 ** 40,)),
                        (line(1, 10001, 1, (("if", ("or",), (BARE,)),)), ())):
            for call in (run, touches, lambda nest, p: first_meet(nest, "a", 0, 0, ("any", "any"), p), lambda nest, p: peak(nest, "a", 0, p)):
                with self.assertRaises(TooMany) as caught:
                    call(nest, p)
                self.assertEqual(caught.exception.limit, 10000)
        self.assertEqual(len(run(line(0, 59999, 6), ())), 10000)

    def test_not_fit(self):
        for nest, p in ((PAIRS, ()), (PAIRS, (1, 2)), (line(1, 3), (0,)), (line(1, 10 ** 6), (0,)), (PAIRS, (10 ** 40, 1))):
            for call in (run, touches, lambda nest, p: first_meet(nest, "a", 0, 0, ("any", "any"), p), lambda nest, p: peak(nest, "a", 0, p)):
                self.assertRaises(NotFit, call, nest, p)


class Meets(unittest.TestCase):
    def test_by_hand(self):
        kinds = ("write", "read")
        self.assertEqual(first_meet(PAIRS, "a", 0, 1, kinds, (3,)), ((0,), (0, 0)))
        # Of the reads of a[2] ahead of its writing, the last one.
        self.assertEqual(first_meet(nest=PAIRS, array="a", s=1, t=0, kinds=("read", "write"), p=(3,)), ((0, 2), (2,)))
        self.assertEqual(first_meet(PAIRS, "a", 1, 1, ("any", "any"), (3,)), ((0, 2), (2, 2)))
        self.assertIsNone(first_meet(PAIRS, "a", 0, 0, ("any", "any"), (9,)))
        self.assertIsNone(first_meet(PAIRS, "a", 0, 1, ("read", "any"), (9,)))
        self.assertIsNone(first_meet(PAIRS, "b", 0, 1, ("any", "any"), (9,)))
        self.assertIsNone(first_meet(PAIRS, "a", 0, 1, kinds, (0,)))
        # Two statements of no loop, and touches of one round, which do not meet.
        both = ("nest", 0, (("do", (("read", "a", ((7,),)), ("write", "a", ((7,),)))), ("do", (("read", "a", ((7,),)),))))
        self.assertEqual(first_meet(both, "a", 0, 1, ("any", "any"), ()), ((), ()))
        self.assertIsNone(first_meet(both, "a", 0, 0, ("any", "any"), ()))
        self.assertIsNone(first_meet(both, "a", 1, 0, ("any", "any"), ()))

    def test_random(self):
        rng = random.Random(752)
        met = 0
        for _ in range(500):
            k = rng.randint(0, 2)
            nest = random_nest(rng, k, 2, 3)
            many = len(counters_of(nest))
            p = tuple(rng.randint(-1, 4) for _ in range(k))
            rounds = walk(nest, p)
            for s, t, kinds in product(range(many), range(many), product(("read", "write", "any"), repeat=2)):
                pairs = meeting_pairs(rounds, "a", s, t, kinds)
                wanted = None
                if pairs:
                    met += 1
                    second = min(j for _, j in pairs)
                    wanted = (rounds[max(i for i, j in pairs if j == second)][1], rounds[second][1])
                self.assertEqual(first_meet(nest, "a", s, t, kinds, p), wanted)
        self.assertGreater(met, 200)


class Peaks(unittest.TestCase):
    def test_by_hand(self):
        # At the write of a[i], those are alive that were touched and are read later on.
        self.assertEqual([peak(PAIRS, "a", 0, (n,)) for n in range(6)], [0, 1, 1, 2, 2, 3])
        self.assertEqual(peak(nest=PAIRS, array="b", s=0, p=(5,)), 0)
        self.assertEqual(peak(PAIRS, "a", 1, (1,)), 0)
        self.assertEqual(peak(PAIRS, "a", 0, (-3,)), 0)
        once = ("nest", 0, (("do", (("write", "a", ((1,),)), ("read", "a", ((1,),)))), BARE))
        self.assertEqual((peak(once, "a", 0, ()), peak(once, "a", 1, ())), (0, 0))

    def test_random(self):
        rng = random.Random(753)
        alive = 0
        for _ in range(400):
            k = rng.randint(0, 2)
            nest = random_nest(rng, k, 2, 3)
            p = tuple(rng.randint(-1, 4) for _ in range(k))
            rounds = walk(nest, p)
            for array in ("a", "b"):
                counts = [len(alive_at(rounds, array, place)) for place in range(len(rounds))]
                for s in range(len(counters_of(nest))):
                    wanted = max([count for count, (own, _, _) in zip(counts, rounds) if own == s], default=0)
                    alive += wanted > 0
                    self.assertEqual(peak(nest, array, s, p), wanted)
        self.assertGreater(alive, 80)


if __name__ == "__main__":
    unittest.main()
