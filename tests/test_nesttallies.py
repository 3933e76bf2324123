import random
import unittest
from itertools import product

from pointtally.alike import alike
from pointtally.counting import tally_of
from pointtally.errors import NotFit
from pointtally.formulas import formula_breach
from pointtally.nests import nest_breach
from pointtally.nesttallies import (
    can_turn, cells_formula, cells_tally, cost_tally, lines_tally, live_tally, meets_formula, meets_tally, both_tally,
    rounds_formula, rounds_tally, touch_alike, touch_parting,
)
from pointtally.sets import pieces_of, points_at
from pointtally.tallies import tally_breach
from tests.oracles import nearness, tally_at
from tests.tools import tried
from tests.walks import alive_at, cells_of, counters_of, kinds_fit, meeting_pairs, random_nest, walk

FAR = 10 ** 40
KINDS = ("read", "write", "any")
BARE = ("do", ())


def do(*touches):
    return ("do", tuple(touches))


def loop(low, high, *body, step=1):
    """Return a loop; low and high are forms, or tuples of two."""
    lows = low if isinstance(low[0], tuple) else (low,)
    highs = high if isinstance(high[0], tuple) else (high,)
    return ("loop", lows, highs, step, body)


def nest(k, *body):
    return ("nest", k, body)


# for t < n { for i = 1 .. n - 2 { a[i] = a[i - 1] + a[i] + a[i + 1] } }
STENCIL = nest(1, loop((0, 0), (-1, 1), loop((1, 0, 0), (-2, 1, 0), do(
    ("read", "a", ((-1, 0, 0, 1),)), ("read", "a", ((0, 0, 0, 1),)), ("read", "a", ((1, 0, 0, 1),)), ("write", "a", ((0, 0, 0, 1),))))))
# for i < n { for j < m { c[i, j] = 0; for l < n { c[i, j] += a[i, l] * b[l, j] } } }
PRODUCT = nest(2, loop((0, 0, 0), (-1, 1, 0), loop((0, 0, 0, 0), (-1, 0, 1, 0), do(("write", "c", ((0, 0, 0, 1, 0), (0, 0, 0, 0, 1)))), loop(
    (0, 0, 0, 0, 0), (-1, 1, 0, 0, 0), do(
        ("read", "a", ((0, 0, 0, 1, 0, 0), (0, 0, 0, 0, 0, 1))), ("read", "b", ((0, 0, 0, 0, 0, 1), (0, 0, 0, 0, 1, 0))),
        ("read", "c", ((0, 0, 0, 1, 0, 0), (0, 0, 0, 0, 1, 0))), ("write", "c", ((0, 0, 0, 1, 0, 0), (0, 0, 0, 0, 1, 0))))))))
# for i = - n .. m by 3 { x[2 i - 5] = ..; if i >= 0 and 2 divides i { .. = y[i] } }
STEPS = nest(2, loop((0, -1, 0), (0, 0, 1), do(("write", "x", ((-5, 0, 0, 2),))), (
    "if", ("and", ("row", (0, 0, 0, 1)), ("divides", 2, (0, 0, 0, 1))), (do(("read", "y", ((0, 0, 0, 1),))),)), step=3))
ONCE = nest(1, do(("write", "a", ((0, 1),))), ("if", ("row", (-5, 1)), (do(("read", "a", ((7, 0),))),)))


def first_like(points, is_so):
    """Return the first of some points, as first_point orders them, for which something is so; None if for none."""
    for p in sorted(points, key=nearness):
        if is_so(p):
            return p
    return None


def turned(one, depth, p):
    """Tell whether at p two rounds are alike above a depth, unlike at it, and touch one cell, one of them by "write"."""
    rounds = walk(one, p)
    for i, (_, counters, cells) in enumerate(rounds):
        for _, other, more in rounds[:i]:
            if counters[:depth] == other[:depth] and counters[depth] != other[depth]:
                for kind, array, cell in cells:
                    for own, name, place in more:
                        if array == name and cell == place and "write" in (kind, own):
                            return True
    return False


class Samples(unittest.TestCase):
    def test_sound(self):
        for one in (STENCIL, PRODUCT, STEPS, ONCE):
            self.assertIsNone(nest_breach(one))


class Rounds(unittest.TestCase):
    def test_by_hand(self):
        tally = rounds_tally(nest=STENCIL, s=0)
        self.assertIsNone(tally_breach(tally, 1))
        for n in (-FAR, -1, 0, 1, 2, 3, 7, FAR):
            self.assertEqual(tally_at(tally, (n,)), n * (n - 2) if n > 2 else 0)
        for n, m in ((3, 4), (0, 5), (-2, -3), (FAR, 2 * FAR), (FAR, -FAR)):
            self.assertEqual(tally_at(rounds_tally(PRODUCT, 0), (n, m)), max(n, 0) * max(m, 0))
            self.assertEqual(tally_at(rounds_tally(PRODUCT, 1), (n, m)), max(n, 0) ** 2 * max(m, 0))
        # Steps from - n on, up to m.
        for n, m in ((5, 7), (-3, 9), (4, -4), (4, -5), (-7, -6), (FAR, FAR), (FAR, -FAR + 1), (-FAR, FAR)):
            rounds = range(-n, m + 1, 3)
            self.assertEqual(tally_at(rounds_tally(STEPS, 0), (n, m)), max((m + n) // 3 + 1, 0))
            if abs(n) < 100:
                self.assertEqual(tally_at(rounds_tally(STEPS, 1), (n, m)), sum(i >= 0 and i % 2 == 0 for i in rounds))

    def test_no_loop(self):
        self.assertEqual(rounds_formula(nest=nest(2, BARE), s=0), ("and",))
        for n in (-FAR, 4, 5, FAR):
            self.assertEqual([tally_at(rounds_tally(ONCE, s), (n,)) for s in (0, 1)], [1, int(n >= 5)])
        self.assertEqual(tally_at(rounds_tally(nest(0, BARE), 0), ()), 1)

    def test_great_sizes(self):
        # for i <= n { for j = i .. n by 2 { for l <= j { } } }: closed sums at great sizes.
        deep = nest(1, loop((0, 0), (0, 1), loop((0, 0, 1), (0, 1, 0), loop((0, 0, 0, 0), (0, 0, 0, 1), BARE), step=2)))
        tally = rounds_tally(deep, 0)
        for n in (-1, 0, 1, 2, 9, 10):
            self.assertEqual(tally_at(tally, (n,)), sum(j + 1 for i in range(n + 1) for j in range(i, n + 1, 2)))
        # Each j is met by those i up to it that leave the same by 2.
        for n in (FAR, FAR + 1):
            wanted = sum_of(lambda j: (j // 2 + 1) * (j + 1), n)
            self.assertEqual(tally_at(tally, (n,)), wanted)

    def test_two_ends(self):
        # From the greater of two lows by 2, to the lesser of two highs.
        ends = nest(2, loop(((0, 1, 0), (3, 0, 1)), ((10, 0, 0), (4, 0, 2)), BARE, step=2))
        tally = rounds_tally(ends, 0)
        for n, m in product(range(-8, 9), repeat=2):
            self.assertEqual(tally_at(tally, (n, m)), len(range(max(n, 3 + m), min(10, 4 + 2 * m) + 1, 2)))
        same = nest(1, loop(((0, 1), (0, 1)), ((9, 0), (9, 0)), BARE, step=4))
        self.assertEqual([tally_at(rounds_tally(same, 0), (n,)) for n in (1, 2, 9, 10)], [3, 2, 1, 0])

    def test_cost(self):
        for n, m in ((4, 3), (0, 3), (FAR, 7)):
            self.assertEqual(tally_at(cost_tally(nest=PRODUCT, prices=(5, -2)), (n, m)), 5 * n * m - 2 * n * n * m)
            self.assertEqual(tally_at(cost_tally(PRODUCT, (0, 0)), (n, m)), 0)
            self.assertEqual(tally_at(cost_tally(PRODUCT, (0, 1)), (n, m)), n * n * m)
        self.assertEqual(tally_at(cost_tally(ONCE, (7, -3)), (5,)), 4)


def sum_of(term, n):
    """Return the sum of a term over j from 0 to n, that of a polynomial on even j and on odd ones, by differences."""
    total = 0
    for rest in (0, 1):
        count = (n - rest) // 2 + 1
        row = [term(2 * i + rest) for i in range(6)]
        part = 1
        # The sum of the first count values is that of the differences times binomials.
        for i in range(len(row)):
            part = part * (count - i) // (i + 1)
            total += row[0] * part
            row = [b - a for a, b in zip(row, row[1:])]
    return total


class Cells(unittest.TestCase):
    def test_by_hand(self):
        for n in (-3, 0, 2, 3, 4, 9, FAR):
            self.assertEqual(tally_at(cells_tally(nest=STENCIL, array="a", kind="any"), (n,)), n if n > 2 else 0)
            self.assertEqual(tally_at(cells_tally(STENCIL, "a", "write"), (n,)), n - 2 if n > 2 else 0)
            self.assertEqual(tally_at(lines_tally(nest=STENCIL, array="a", kind="any", w=8), (n,)), (n + 7) // 8 if n > 2 else 0)
        for n, m in ((3, 5), (0, 5), (FAR, 2 * FAR)):
            self.assertEqual(tally_at(cells_tally(PRODUCT, "a", "read"), (n, m)), n * n if m else 0)
            self.assertEqual(tally_at(cells_tally(PRODUCT, "b", "any"), (n, m)), n * m)
            self.assertEqual(tally_at(lines_tally(PRODUCT, "c", "write", 12), (n, m)), n * ((m + 11) // 12))
            self.assertEqual(tally_at(both_tally(nest=PRODUCT, array="c", s=0, t=1), (n, m)), n * m)
            self.assertEqual(tally_at(both_tally(PRODUCT, "a", 0, 1), (n, m)), 0)
            self.assertEqual(tally_at(both_tally(PRODUCT, "a", 1, 1), (n, m)), n * n if m else 0)

    def test_untouched(self):
        for one, p in ((STENCIL, (9,)), (PRODUCT, (9, 9)), (nest(0, BARE), ())):
            for kind in KINDS:
                self.assertIsNone(formula_breach(cells_formula(one, "none", kind), one[1] + 1))
                self.assertEqual(tally_at(cells_tally(one, "none", kind), p), 0)
                self.assertEqual(tally_at(lines_tally(one, "none", kind, 2), p), 0)
            self.assertEqual(tally_at(both_tally(one, "none", 0, 0), p), 0)
            self.assertEqual(tally_at(cells_tally(PRODUCT, "a", "write"), (5, 5)), 0)

    def test_formulas(self):
        rng = random.Random(771)
        for _ in range(40):
            k = rng.randint(0, 2)
            one = random_nest(rng, k, 2, 3)
            p = tuple(rng.randint(-1, 4) for _ in range(k))
            rounds = walk(one, p)
            for s, many in enumerate(counters_of(one)):
                formula = rounds_formula(one, s)
                self.assertIsNone(formula_breach(formula, k + many))
                there = points_at(pieces_of(k, many, formula), p, 10000)
                self.assertEqual(there, tuple(sorted(counters for own, counters, _ in rounds if own == s)))
            for array, kind in product(("a", "b"), KINDS):
                cells = cells_of(rounds, array, kind)
                formula = cells_formula(one, array, kind)
                width = max([len(cell) for cell in cells], default=1)
                if cells:
                    self.assertEqual(points_at(pieces_of(k, width, formula), p, 10000), tuple(sorted(cells)))

    def test_random(self):
        rng = random.Random(772)
        met = 0
        for _ in range(45):
            k = rng.randint(0, 2)
            one = random_nest(rng, k, rng.choice((1, 2, 3)), 3, (1, 1, 2, 3, 6))
            points = [tuple(rng.randint(-3, 4) for _ in range(k)) for _ in range(3)]
            walks = [walk(one, p) for p in points]
            many, w = len(counters_of(one)), rng.choice((2, 3, 12))
            for array in ("a", "b"):
                for kind in KINDS:
                    tally, lines = cells_tally(one, array, kind), lines_tally(one, array, kind, w)
                    for p, rounds in zip(points, walks):
                        cells = cells_of(rounds, array, kind)
                        met += len(cells)
                        self.assertEqual(tally_at(tally, p), len(cells))
                        self.assertEqual(tally_at(lines, p), len({(*cell[:-1], cell[-1] // w) for cell in cells}))
                for s, t in product(range(many), repeat=2):
                    tally = both_tally(one, array, s, t)
                    for p, rounds in zip(points, walks):
                        both = [cells_of([row for row in rounds if row[0] == i], array, "any") for i in (s, t)]
                        self.assertEqual(tally_at(tally, p), len(both[0] & both[1]))
            for s in range(many):
                tally = rounds_tally(one, s)
                for p, rounds in zip(points, walks):
                    self.assertEqual(tally_at(tally, p), sum(own == s for own, _, _ in rounds))
        self.assertGreater(met, 800)


class Meets(unittest.TestCase):
    def test_by_hand(self):
        # Each write of a cell meets the reads of it by itself and its neighbours in all later sweeps, and in its own.
        tally = meets_tally(nest=STENCIL, array="a", s=0, t=0, kinds=("write", "read"))
        self.assertIsNone(tally_breach(tally, 1))
        for n in (2, 3, 4, 5, 6):
            self.assertEqual(tally_at(tally, (n,)), len(meeting_pairs(walk(STENCIL, (n,)), "a", 0, 0, ("write", "read"))))
        # A sweep writes n - 2 cells, and of two sweeps as many rounds meet as lie next to one another.
        n = FAR
        self.assertEqual(tally_at(tally, (n,)), (3 * (n - 2) - 2) * (n * (n - 1) // 2) + (n - 3) * n)
        self.assertEqual(meets_tally(STENCIL, "b", 0, 0, ("any", "any")), ())
        self.assertEqual(tally_at(meets_tally(ONCE, "a", 0, 1, ("write", "read")), (7,)), 1)
        self.assertEqual([tally_at(meets_tally(ONCE, "a", *pair, ("any", "any")), (7,)) for pair in ((1, 0), (0, 0), (1, 1))], [0, 0, 0])

    def test_counters(self):
        # Four counters of both together are let, five are not; formulas are told of six, too.
        deep = nest(0, loop((0,), (2,), do(("write", "a", ((0, 1),))), loop((0, 0), (2, 0), do(("read", "a", ((0, 0, 1),))), loop(
            (0, 0, 0), (2, 0, 0), do(("read", "a", ((0, 1, 0, 0),)))))))
        rounds = walk(deep, ())
        for s, t in product(range(3), repeat=2):
            many = (1, 2, 3)[s] + (1, 2, 3)[t]
            pairs = meeting_pairs(rounds, "a", s, t, ("any", "any"))
            if many > 4:
                self.assertRaises(NotFit, meets_tally, deep, "a", s, t, ("any", "any"))
                self.assertRaises(NotFit, meets_tally, deep, "none", s, t, ("any", "any"))
            else:
                self.assertEqual(tally_at(meets_tally(deep, "a", s, t, ("any", "any")), ()), len(pairs))
            formula = meets_formula(nest=deep, array="a", s=s, t=t, kinds=("any", "any"))
            self.assertIsNone(formula_breach(formula, many))
            held = sum(tried(formula, (*one[1], *other[1]), 0) for one in rounds for other in rounds if (one[0], other[0]) == (s, t))
            self.assertEqual(held, len(pairs))

    def test_random(self):
        rng = random.Random(781)
        met = 0
        for _ in range(110):
            k = rng.randint(0, 2)
            one = random_nest(rng, k, 2, 3)
            points = [tuple(rng.randint(-2, 4) for _ in range(k)) for _ in range(2)]
            many = counters_of(one)
            for s, t in product(range(len(many)), repeat=2):
                kinds = rng.choice(list(product(KINDS, repeat=2)))
                tally, formula = meets_tally(one, "a", s, t, kinds), meets_formula(one, "a", s, t, kinds)
                self.assertIsNone(formula_breach(formula, k + many[s] + many[t]))
                for p in points:
                    rounds = walk(one, p)
                    pairs = meeting_pairs(rounds, "a", s, t, kinds)
                    met += len(pairs)
                    self.assertEqual(tally_at(tally, p), len(pairs))
                    for j, i in [(j, i) for j in range(len(rounds)) for i in range(len(rounds)) if rounds[i][0] == s and rounds[j][0] == t][:80]:
                        self.assertEqual(tried(formula, (*p, *rounds[i][1], *rounds[j][1]), 0), (i, j) in pairs)
        self.assertGreater(met, 100)


class Turns(unittest.TestCase):
    def test_by_hand(self):
        # A sweep that goes the other way reads what it has written: from three, four cells on.
        self.assertEqual(can_turn(nest=STENCIL, depth=0), (3,))
        self.assertEqual(can_turn(STENCIL, 1), (4,))
        # Each round writes a cell of its own.
        own = nest(1, loop((0, 0), (0, 1), do(("write", "a", ((0, 0, 1),)), ("read", "a", ((0, 0, 1),)), ("read", "b", ((3, 0, 0),)))))
        self.assertIsNone(can_turn(own, 0))
        # a[i] is read at i + n, which comes only if n is not 0.
        apart = nest(1, loop((0, 0), (9, 0), do(("write", "a", ((0, 0, 1),)), ("read", "a", ((0, 1, 1),)))))
        self.assertEqual(can_turn(apart, 0), (-1,))
        far = nest(1, loop((0, 0), (9, 0), do(("write", "a", ((0, 0, 1),)), ("read", "a", ((-10 ** 6, 1, 1),)))))
        self.assertEqual(can_turn(far, 0), (10 ** 6 - 9,))
        none = nest(0, loop((0,), (9,), do(("write", "a", ((0, 2),)), ("read", "a", ((1, 2),)))))
        self.assertIsNone(can_turn(none, 0))
        self.assertEqual(can_turn(nest(0, loop((0,), (9,), do(("write", "a", ((0, 2),)), ("read", "a", ((0, 1),))))), 0), ())
        # Reads alone part nothing.
        self.assertIsNone(can_turn(nest(0, loop((0,), (9,), do(("read", "a", ((0, 0),))))), 0))

    def test_not_fit(self):
        for one, depth in ((PRODUCT, 0), (PRODUCT, 1), (ONCE, 0), (STENCIL, 2), (nest(0, BARE), 0), (nest(0, loop((0,), (1,), BARE), BARE), 0),
                           (nest(0, loop((0,), (1,), BARE)), 1), (nest(0, loop((0,), (1,), loop((0, 0), (1, 0), BARE), BARE)), 1),
                           (nest(0, ("if", ("and",), (loop((0,), (1,), BARE),))), 0), (nest(0, loop((0,), (1,), ("if", ("and",), (loop((0, 0), (1, 0), BARE),)))), 1)):
            self.assertRaises(NotFit, can_turn, one, depth)
        # The body of the loop itself is free, also where it has more loops side by side.
        self.assertIsNone(can_turn(nest(0, loop((0,), (1,), loop((0, 0), (1, 0), BARE), BARE, ("if", ("and",), (loop((0, 0), (1, 0), BARE),)))), 0))

    def test_random(self):
        rng = random.Random(791)
        seen = {True: 0, False: 0}
        for _ in range(150):
            k = rng.randint(0, 2)
            one = random_nest(rng, k, 2, 3)
            for depth in (0, 1):
                try:
                    told = can_turn(one, depth)
                except NotFit:
                    continue
                near = list(product(range(-4, 6), repeat=k))
                wanted = first_like(near, lambda p: turned(one, depth, p))
                seen[told is None] += 1
                if told is None or wanted is None or max(map(abs, told), default=0) > 4:
                    self.assertEqual(wanted is None, told is None or told not in near)
                    self.assertTrue(told is None or turned(one, depth, told))
                else:
                    self.assertEqual(told, wanted)
        self.assertGreater(min(seen.values()), 15)


class Lives(unittest.TestCase):
    def test_by_hand(self):
        tally = live_tally(nest=STENCIL, array="a", s=0)
        self.assertIsNone(tally_breach(tally, 3))
        # At a round of a sweep all cells are alive that are touched again; in the last one only those to come.
        for n in (3, 4, 6):
            for t, i in product(range(-1, n + 1), repeat=2):
                inside = 0 <= t < n and 1 <= i <= n - 2
                rounds = walk(STENCIL, (n,))
                wanted = len(alive_at(rounds, "a", t * (n - 2) + i - 1)) if inside else 0
                self.assertEqual(tally_at(tally, (n, t, i)), wanted)
        self.assertEqual(tally_at(tally, (FAR, 5, 7)), FAR)
        self.assertEqual(tally_at(tally, (FAR, 0, 1)), 3)
        self.assertEqual(tally_at(tally, (FAR, FAR - 1, FAR - 2)), 0)
        self.assertEqual(live_tally(STENCIL, "none", 0), ())
        self.assertEqual(tally_at(live_tally(ONCE, "a", 0), (7,)), 1)
        self.assertEqual([tally_at(live_tally(ONCE, "a", s), (8,)) for s in (0, 1)], [0, 0])

    def test_not_fit(self):
        for s in (0, 1):
            self.assertRaises(NotFit, live_tally, PRODUCT, "a", s)
            self.assertRaises(NotFit, live_tally, PRODUCT, "none", s)
        cube = nest(0, loop((0,), (1,), loop((0, 0), (1, 0), loop((0, 0, 0), (1, 0, 0), do(("read", "a", ((0, 1, 1, 0),)))))))
        rounds = walk(cube, ())
        for place, (_, counters, _) in enumerate(rounds):
            self.assertEqual(tally_at(live_tally(cube, "a", 0), counters), len(alive_at(rounds, "a", place)))

    def test_random(self):
        rng = random.Random(801)
        alive = 0
        for _ in range(40):
            k = rng.randint(0, 2)
            one = random_nest(rng, k, 2, 3)
            for s, many in enumerate(counters_of(one)):
                if k + many > 3:
                    self.assertRaises(NotFit, live_tally, one, "a", s)
                    continue
                tally = live_tally(one, "a", s)
                for p in [tuple(rng.randint(-1, 4) for _ in range(k)) for _ in range(2)]:
                    rounds = walk(one, p)
                    there = {counters: place for place, (own, counters, _) in enumerate(rounds) if own == s}
                    for counters in (*there, *[tuple(rng.randint(-3, 5) for _ in range(many)) for _ in range(3)]):
                        wanted = len(alive_at(rounds, "a", there[counters])) if counters in there else 0
                        alive += wanted
                        self.assertEqual(tally_at(tally, (*p, *counters)), wanted)
        self.assertGreater(alive, 120)


class TouchParts(unittest.TestCase):
    def test_by_hand(self):
        up = nest(1, loop((0, 0), (-1, 1), do(("write", "a", ((0, 0, 1),)))))
        down = nest(1, loop((0, 0), (-1, 1), do(("write", "a", ((-1, 1, -1),)))))
        wide = nest(1, loop((0, 0), (0, 1), do(("write", "a", ((0, 0, 1),)))))
        self.assertIsNone(touch_parting(one=up, other=down, array="a", kind="write"))
        self.assertIs(touch_alike(one=up, other=down, array="a", kind="any"), True)
        self.assertEqual(touch_parting(up, wide, "a", "write"), (0, 0))
        self.assertIs(touch_alike(up, wide, "a", "write"), False)
        self.assertIsNone(touch_parting(up, wide, "a", "read"))
        # From sizes on that are far away alone.
        late = nest(1, loop((0, 0), (-1, 1), do(("write", "a", ((0, 0, 1),)))), ("if", ("row", (-1000, 1)), (do(("write", "a", ((-7, 0),))),)))
        self.assertEqual(touch_parting(up, late, "a", "any"), (1000, -7))
        below = nest(1, loop((0, 0), (-1, 1), do(("write", "a", ((0, 0, 1),)))), ("if", ("row", (-3, -1)), (do(("write", "a", ((5, 1),))),)))
        self.assertEqual(touch_parting(up, below, "a", "any"), (-3, 2))

    def test_fits(self):
        one, two = nest(1, do(("read", "a", ((0, 1),)))), nest(1, do(("read", "a", ((0, 1), (0, 0)))))
        for call in (touch_parting, touch_alike):
            for kind in KINDS:
                self.assertRaises(NotFit, call, one, two, "a", kind)
                self.assertRaises(NotFit, call, one, nest(2, do(("read", "a", ((0, 1, 0),)))), "a", kind)
                self.assertRaises(NotFit, call, one, nest(2, BARE), "b", kind)
        bare = nest(1, BARE)
        self.assertIsNone(touch_parting(one, two, "b", "any"))
        self.assertIsNone(touch_parting(bare, bare, "a", "any"))
        self.assertEqual(touch_parting(one, bare, "a", "any"), (0, 0))
        self.assertEqual(touch_parting(bare, two, "a", "read"), (0, 0, 0))
        self.assertIs(touch_alike(bare, two, "a", "write"), True)

    def test_random(self):
        rng = random.Random(811)
        parted = 0
        for i in range(60):
            k = rng.randint(0, 2)
            one, other = random_nest(rng, k, 2, 2), random_nest(rng, k, 2, 2)
            kind = rng.choice(KINDS)
            try:
                told = touch_parting(one, other, "a", kind)
            except NotFit:
                continue
            self.assertIs(touch_alike(one, other, "a", kind), told is None)
            self.assertIsNone(touch_parting(one, one, "a", kind))
            points = []
            for p in product(range(-3, 4), repeat=k):
                cells = cells_of(walk(one, p), "a", kind) ^ cells_of(walk(other, p), "a", kind)
                points += [(*p, *cell) for cell in cells]
            if told is not None:
                cells = [cells_of(walk(part, told[:k]), "a", kind) for part in (one, other)]
                self.assertNotEqual(told[k:] in cells[0], told[k:] in cells[1])
            if points:
                parted += 1
                self.assertLessEqual(nearness(told), nearness(min(points, key=nearness)))
                if max(map(abs, told[:k]), default=0) <= 3:
                    self.assertEqual(told, min(points, key=nearness))
        self.assertGreater(parted, 15)


class Together(unittest.TestCase):
    def test_kinds(self):
        for kind in ("read", "write"):
            self.assertTrue(kinds_fit(kind, "any") and kinds_fit(kind, kind))

    def test_rounds_and_cells_of_their_own(self):
        # Where each round touches a cell of its own, there are as many cells as rounds, for all sizes.
        for one in (STEPS, nest(2, loop((0, 0, 0), (-1, 1, 0), loop((0, 0, 0, 1), (-1, 0, 1, 0), do(("write", "x", ((0, 0, 0, 1, 0), (0, 0, 0, 1, 2)))), step=2)))):
            self.assertIsNone(alike(rounds_tally(one, 0), cells_tally(one, "x", "write"), 2))
            self.assertIsNone(alike(tally_of(2, counters_of(one)[0], rounds_formula(one, 0)), both_tally(one, "x", 0, 0), 2))


if __name__ == "__main__":
    unittest.main()
