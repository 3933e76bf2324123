import random
import unittest

from pointtally.errors import NoPoint, NotBounded, NotFit, NotFormula, TooMany
from pointtally.falling import is_empty_paper
from pointtally.grids import whole_grid
from pointtally.listing import holds_within, listed
from pointtally.sets import (
    common, fallen, first_point, formula_paper, has_point, is_apart, is_finite_set, is_formula_paper, is_same, is_within, joined,
    need_finite_set, parting, pieces_of, plain_pieces, points_at, taken_out,
)
from tests.oracles import has, nearness, points_in
from tests.plainly import plain
from tests.test_pieces import random_piece
from tests.tools import JUNK, cube, deep_nest, random_formula

TRUE, FALSE = ("and",), ("or",)


def random_set(rng, k, d, many=3):
    return tuple(random_piece(rng, k, d) for _ in range(rng.randint(0, many)))


def room(rng, most=2):
    k = rng.randint(0, 1)
    return (k, rng.randint(0, most - k))


def small(rng, k, d):
    """Return a random set within a box."""
    found = []
    for (_, _, rows), grid in random_set(rng, k, d):
        m = k + d
        walls = tuple((rng.randint(0, 2), *[sign * (i == j) for i in range(m)]) for j in range(m) for sign in (1, -1))
        found.append(((k, d, rows + walls), grid))
    return tuple(found)


class Combined(unittest.TestCase):
    def check(self, pieces, k, d, wanted):
        """Check that a set is apart and has just the wanted points of a box."""
        self.assertIs(type(pieces), tuple)
        self.assertIs(is_apart(pieces), True)
        for hall, grid in pieces:
            self.assertEqual((hall[:2], len(grid[1])), ((k, d), k + d))
        for t in cube(k + d, -5, 5):
            self.assertEqual([has(piece, t) for piece in pieces].count(True), int(t in wanted))

    def test_random(self):
        rng = random.Random(351)
        for _ in range(120):
            k, d = room(rng)
            one, other = random_set(rng, k, d), random_set(rng, k, d)
            mine, others = points_in(one, -5, 5), points_in(other, -5, 5)
            self.check(common(one, other), k, d, mine & others)
            self.check(taken_out(one, other), k, d, mine - others)
            self.check(joined(one, other), k, d, mine | others)
            self.assertEqual(common(one=one, other=other), common(one, other))

    def test_empty(self):
        rng = random.Random(352)
        for _ in range(20):
            one = random_set(rng, 1, 1)
            mine = points_in(one, -5, 5)
            self.check(joined(one, ()), 1, 1, mine)
            self.check(joined((), one), 1, 1, mine)
            self.check(taken_out(one, ()), 1, 1, mine)
            self.assertEqual((common(one, ()), common((), one), taken_out((), one)), ((), (), ()))
        self.assertEqual((joined((), ()), fallen((), 0), is_apart(())), ((), (), True))

    def test_without_letters(self):
        there, nowhere = ((0, 0, ((3,), (0,))), ((), ())), ((0, 0, ((-1,),)), ((), ()))
        self.assertTrue(has_point(joined((there,), (there,))))
        self.assertEqual(len(joined((there,), (there,))), 1)
        self.assertFalse(has_point(common((there,), (nowhere,))))
        self.assertFalse(has_point(taken_out((there,), (there,))))
        self.assertTrue(has_point(taken_out((there,), (nowhere,))))

    def test_fallen(self):
        rng = random.Random(353)
        for _ in range(100):
            k, d = rng.choice(((0, 1), (0, 2), (1, 1), (1, 2), (0, 3)))
            pieces = []
            for (_, _, rows), grid in random_set(rng, k, d, 2):
                m = k + d
                walls = [(rng.randint(0, 3), *[sign * (i == j) for i in range(m)]) for j in range(k, m) for sign in (1, -1)]
                pieces.append(((k, d, rows + tuple(walls)), (grid if m < 3 else whole_grid(m))))
            reach = 3 if k + d > 2 else 30
            there = [t for t in cube(k + d, -reach, reach) if any(has(piece, t) for piece in pieces)] if k == 0 or d < 2 else None
            for count in range(d + 1):
                told = fallen(tuple(pieces), count)
                self.assertIs(is_apart(told), True)
                for t in cube(k + d - count, -3, 3):
                    if there is None:
                        wanted = any(has(piece, (*t, *more)) for piece in pieces for more in cube(count, -3, 3))
                    else:
                        wanted = any(point[:len(t)] == t for point in there)
                    self.assertEqual([has(piece, t) for piece in told].count(True), int(wanted), (pieces, count, t))

    def test_fallen_by_hand(self):
        # 6 y within 1 of x: all x but those that leave 2, 3 or 4.
        piece = ((0, 2, ((1, -1, 6), (1, 1, -6))), whole_grid(2))
        told = fallen(pieces=(piece,), count=1)
        for x in range(-20, 20):
            self.assertEqual([has(part, (x,)) for part in told].count(True), int(x % 6 in (5, 0, 1)))
        self.assertEqual([has(part, ()) for part in fallen((piece,), 2)], [True])
        self.assertFalse(has_point(fallen((((0, 1, ((-1, 3), (2, -3))), whole_grid(1)),), 1)))

    def test_two_letters_fall(self):
        # x = 4 y + 7 z with y and z from 0 on: all from 18 on, and of those below the sums.
        piece = ((0, 3, ((0, 1, -4, -7), (0, -1, 4, 7), (0, 0, 1, 0), (0, 0, 0, 1))), whole_grid(3))
        told = fallen((piece,), 2)
        sums = {4 * y + 7 * z for y in range(20) for z in range(20)}
        for x in range(-5, 60):
            self.assertEqual([has(part, (x,)) for part in told].count(True), int(x in sums))

    def test_is_apart(self):
        low, high = ((0, 1, ((4, -1),)), whole_grid(1)), ((0, 1, ((-4, 1),)), whole_grid(1))
        self.assertIs(is_apart((low, high)), False)
        self.assertIs(is_apart((low, ((0, 1, ((-5, 1),)), whole_grid(1)))), True)
        self.assertIs(is_apart((((0, 1, ()), (((2,),), (0,))), ((0, 1, ()), (((2,),), (1,))))), True)
        self.assertIs(is_apart((((0, 1, ()), (((2,),), (0,))), ((0, 1, ()), (((3,),), (1,))))), False)
        # They share fractions, but no whole point.
        thin = ((0, 2, ((-1, 2, 2), (1, -2, -2))), whole_grid(2))
        self.assertIs(is_apart((thin, thin)), True)
        rng = random.Random(354)
        for _ in range(80):
            k, d = room(rng)
            pieces = small(rng, k, d)
            wide = [t for t in cube(k + d, -12, 12) if [has(piece, t) for piece in pieces].count(True) > 1]
            self.assertEqual(is_apart(pieces), not wide)

    def test_not_fit(self):
        one, other, third = (((k, d, ()), whole_grid(2)) for k, d in ((0, 2), (1, 1), (2, 0)))
        for function in (common, taken_out, joined, is_within, is_same, parting):
            self.assertRaises(NotFit, function, (one,), (other,))
            self.assertRaises(NotFit, function, (one, other), ())
            self.assertRaises(NotFit, function, (), (third, other))
            function((one,), ())
        for function in (is_apart, has_point, first_point, is_finite_set, need_finite_set):
            self.assertRaises(NotFit, function, (one, other))
        self.assertRaises(NotFit, fallen, (one, other), 0)
        self.assertRaises(NotFit, points_at, (one, other), (), 5)


class Formulas(unittest.TestCase):
    def test_plain_by_hand(self):
        whole = whole_grid(1)
        self.assertEqual(plain_pieces(0, 1, ("row", (5, 2))), (((0, 1, ((2, 1),)), whole),))
        self.assertEqual(plain_pieces(0, 1, ("row", (5, 0))), (((0, 1, ((5, 0),)), whole),))
        self.assertEqual(plain_pieces(0, 1, ("row", (-5, 0))), ())
        self.assertEqual(plain_pieces(1, 0, ("divides", 4, (2, 6))), (((1, 0, ()), (((2,),), (1,))),))
        self.assertEqual(plain_pieces(1, 0, ("divides", 4, (1, 6))), ())
        self.assertEqual(plain_pieces(1, 0, TRUE), (((1, 0, ()), whole),))
        self.assertEqual(plain_pieces(1, 0, FALSE), ())
        self.assertEqual(plain_pieces(0, 1, ("not", TRUE)), ())
        self.assertEqual(plain_pieces(k=0, d=1, formula=("not", FALSE)), (((0, 1, ()), whole),))
        told = (((0, 1, ()), (((3,),), (2,))), ((0, 1, ()), (((3,),), (0,))))
        self.assertEqual(plain_pieces(0, 1, ("not", ("divides", 3, (2, 1)))), told)
        self.assertEqual(plain_pieces(0, 1, ("not", ("row", (5, 2)))), (((0, 1, ((-3, -1),)), whole),))
        told = (((0, 1, ((0, 1),)), whole), ((0, 1, ((4, 1), (-1, -1))), whole))
        self.assertEqual(plain_pieces(0, 1, ("or", ("row", (0, 1)), ("row", (4, 1)))), told)
        self.assertEqual(plain_pieces(0, 1, ("some", ("row", (0, 1, -2)))), (((0, 1, ()), whole),))
        told = (((0, 1, ((0, 0),)), (((2,),), (0,))),)
        self.assertEqual(plain_pieces(0, 1, ("some", ("and", ("row", (0, 1, -2)), ("row", (0, -1, 2))))), told)

    def test_plain_random(self):
        rng = random.Random(361)
        seen = 0
        for _ in range(250):
            k, d = room(rng)
            formula = random_formula(rng, k + d, rng.choice((1, 2, 2, 3)), 2, rng.choice((1, 2, 3)))
            if wide(formula, k + d) <= 3:
                told = plain_pieces(k, d, formula)
                self.assertEqual(told, tuple(plain(k, d, formula)), formula)
                self.assertIs(is_apart(told), True)
                seen += len(told)
        self.assertGreater(seen, 250)

    def test_pieces_of(self):
        rng = random.Random(362)
        for _ in range(200):
            k, d = room(rng)
            formula = random_formula(rng, k + d, 3, 0, 3)
            told = pieces_of(k, d, formula)
            for t in cube(k + d, -6, 6):
                self.assertEqual([has(piece, t) for piece in told].count(True), int(holds_within(formula, t, 0)))

    def test_some(self):
        rng = random.Random(363)
        for _ in range(120):
            k, d = room(rng)
            inner = random_formula(rng, k + d + 1, 2, 1, 2)
            walls = tuple(("row", (rng.randint(0, 4), *[0] * (k + d), sign)) for sign in (1, -1))
            formula = ("some", ("and", *walls, inner))
            if rng.randint(0, 1):
                formula = ("not", formula)
            told = pieces_of(k, d, formula)
            self.assertIs(is_apart(told), True)
            self.assertIs(is_same(told, plain_pieces(k, d, formula)), True)
            if inner[0] != "some" and "some" not in str(inner):
                for t in cube(k + d, -4, 4):
                    self.assertEqual([has(piece, t) for piece in told].count(True), int(holds_within(formula, t, 4)))

    def test_not_ahead_of_all(self):
        inner = ("some", ("and", ("row", (1, 1, -3)), ("row", (1, -1, 3))))
        for formula in (("row", (2, -1)), ("divides", 6, (1, 4)), ("and", ("row", (3, 1)), ("row", (3, -1))), ("and",), ("or",),
                        ("or", ("row", (-3, 1)), ("divides", 2, (0, 1))), ("not", ("divides", 5, (0, 1))), inner, ("not", inner),
                        ("some", ("some", ("and", ("row", (0, 1, -2, -3)), ("row", (0, -1, 2, 3)))))):
            told = pieces_of(0, 1, ("not", formula))
            for t in cube(1, -15, 15):
                self.assertEqual(any(has(piece, t) for piece in told), not holds_within(formula, t, 20))

    def test_some_within_some(self):
        # x = 6 y and y = 5 z or z = y + 7, and so on: nested numbers must not be mixed up.
        formula = ("some", ("and", equal((0, 1, -6)), ("some", ("or", equal((0, 0, 1, -5)), equal((7, 1, 0, -4))))))
        told = pieces_of(0, 1, formula)
        for x in range(-70, 70):
            self.assertEqual(any(has(piece, (x,)) for piece in told), x % 6 == 0 and (x // 6 % 5 == 0 or (x + 7) % 4 == 0))

    def test_not_formula(self):
        bad = ("and", ("row", (0, 0)), ("row", (0, 0, 0)))
        for function in (pieces_of, plain_pieces, formula_paper):
            for value in JUNK:
                if value != ("and",):
                    with self.assertRaises(NotFormula) as caught:
                        function(0, 1, value)
                    self.assertIn(caught.exception.path, ((), (1,)))
            with self.assertRaises(NotFormula) as caught:
                function(1, 0, bad)
            self.assertEqual(caught.exception.path, (2, 1))
        for value in (*JUNK, (), ("never", ())):
            with self.assertRaises(NotFormula) as caught:
                is_formula_paper(1, 0, bad, value)
            self.assertEqual(caught.exception.path, (2, 1))

    def test_deep_formula(self):
        formula = ("row", (3, -1))
        for _ in range(190):
            formula = ("not", ("and", formula)) if len(str(formula)) % 2 else ("and", formula)
        told = pieces_of(0, 1, formula)
        for x in range(-3, 8):
            self.assertEqual(any(has(piece, (x,)) for piece in told), holds_within(formula, (x,), 0))


def equal(form):
    """Return the formula that a form is 0."""
    return ("and", ("row", form), ("row", tuple(-entry for entry in form)))


def wide(formula, m):
    """Return the greatest number of letters in force anywhere in a formula."""
    if formula[0] in ("row", "divides"):
        return m
    return max([wide(inner, m + (formula[0] == "some")) for inner in formula[1:]], default=m)


class Papers(unittest.TestCase):
    def test_by_hand(self):
        self.assertEqual(formula_paper(0, 1, FALSE), ())
        self.assertIsNone(formula_paper(0, 0, TRUE))
        self.assertEqual(formula_paper(0, 0, FALSE), ())
        formula = equal((1, 2))
        self.assertEqual(plain_pieces(0, 1, formula), ())
        self.assertEqual(formula_paper(k=0, d=1, formula=formula), ())
        thin = equal((1, 2, 2))
        self.assertEqual(plain_pieces(0, 2, thin), ())
        inner = ("and", ("row", (-1, 2, 3)), ("row", (2, -2, -3)), ("row", (-2, 3, 4)), ("row", (2, -3, -4)), ("divides", 2, (0, 0, 1)))
        self.assertEqual(formula_paper(0, 2, inner) is None, any(holds_within(inner, t, 0) for t in cube(2, -20, 20)))

    def test_random(self):
        rng = random.Random(371)
        empty = full = 0
        for _ in range(250):
            k, d = room(rng)
            formula = random_formula(rng, k + d, 2, 1, 3)
            walls = tuple(("row", (rng.randint(0, 1), *[sign * (i == j) for i in range(k + d)])) for j in range(k + d) for sign in (1, -1))
            formula = ("and", *walls, formula, random_formula(rng, k + d, 2, 0, 3))
            paper = formula_paper(k, d, formula)
            self.assertEqual(paper is None, has_point(pieces_of(k, d, formula)))
            if "some" not in str(formula):
                self.assertEqual(paper is None, any(holds_within(formula, t, 0) for t in cube(k + d, -1, 1)))
            if paper is None:
                full += 1
                self.assertIs(is_formula_paper(k, d, formula, ()), not plain_pieces(k, d, formula))
                continue
            empty += 1
            pieces = plain_pieces(k, d, formula)
            self.assertEqual(len(pieces), len(paper))
            self.assertTrue(all(map(is_empty_paper, pieces, paper)))
            self.assertIs(is_formula_paper(k, d, formula, paper), True)
            self.assertIs(is_formula_paper(k, d, formula, list(paper)), False)
            self.assertIs(is_formula_paper(k, d, formula, (*paper, ("never", ()))), False)
            if paper:
                self.assertIs(is_formula_paper(k, d, formula, paper[1:]), False)
                self.assertIs(is_formula_paper(k, d, formula, (("never", ()), *paper[1:])), False)
        self.assertGreater(empty, 40)
        self.assertGreater(full, 40)

    def test_other_papers(self):
        # 2 x is from 1 to 1, told with rows that lowering cannot part.
        formula = ("and", ("row", (-1, 2, 2)), ("row", (1, -2, -2)))
        self.assertEqual(len(plain_pieces(0, 2, formula)), 0)
        formula = ("and", ("row", (-1, 4, 6)), ("row", (3, -4, -6)), ("row", (-2, 6, 4)), ("row", (3, -6, -4)))
        pieces = plain_pieces(0, 2, formula)
        paper = formula_paper(0, 2, formula)
        self.assertEqual((len(pieces), paper is None), (1, any(holds_within(formula, t, 0) for t in cube(2, -9, 9))))

    def test_other_values(self):
        formula = ("row", (-1, 0))
        self.assertIs(is_formula_paper(0, 1, formula, ()), True)
        for value in JUNK + (deep_nest(190),):
            if value != ():
                self.assertIs(is_formula_paper(0, 1, formula, value), False, value)
            self.assertIs(is_formula_paper(0, 1, TRUE, value), False, value)
        self.assertIs(is_formula_paper(k=0, d=1, formula=formula, value=()), True)


class Points(unittest.TestCase):
    def test_has_point(self):
        rng = random.Random(381)
        for _ in range(150):
            k, d = room(rng)
            pieces = small(rng, k, d)
            self.assertEqual(has_point(pieces), bool(points_in(pieces, -12, 12)))
        self.assertIs(has_point(()), False)
        self.assertIs(has_point((((0, 0, ()), ((), ())),)), True)
        far = 10 ** 40
        self.assertIs(has_point((((0, 2, ((-far, 3, -2), (far, -3, 2), (-far, 0, 1))), whole_grid(2)),)), True)
        self.assertIs(has_point((((0, 2, ((-far - 1, 6, -3), (far + 1, -6, 3), (0, 0, 1))), whole_grid(2)),)), (far + 1) % 3 == 0)

    def test_first_point(self):
        rng = random.Random(382)
        found = 0
        for _ in range(200):
            k, d = room(rng)
            pieces = small(rng, k, d)
            points = points_in(pieces, -12, 12)
            if points:
                found += 1
                self.assertEqual(first_point(pieces), min(points, key=nearness))
            else:
                self.assertRaises(NoPoint, first_point, pieces)
        self.assertGreater(found, 60)

    def test_first_by_hand(self):
        two = (((0, 1, ((-3, 1),)), whole_grid(1)), ((0, 1, ((-3, -1),)), whole_grid(1)))
        self.assertEqual(first_point(two), (-3,))
        self.assertEqual(first_point(pieces=two[:1]), (3,))
        self.assertEqual(first_point((((0, 0, ()), ((), ())),)), ())
        self.assertRaises(NoPoint, first_point, ())
        # The second entry comes after the first one, however far it is.
        far = 10 ** 30
        lots = (((0, 2, ((-1, 1, 0), (1, -1, 0), (-far, 0, 1))), whole_grid(2)), ((0, 2, ((-2, 1, 0), (0, 0, 1))), whole_grid(2)))
        self.assertEqual(first_point(lots), (1, far))
        self.assertEqual(first_point((((1, 1, ((-far, 3, 5), (far, -3, -5), (-1, 0, 1))), whole_grid(2)),)), (0, far // 5))
        self.assertEqual(first_point((((1, 0, ()), (((7,),), (4,))),)), (-3,))

    def test_within_and_same(self):
        rng = random.Random(383)
        same = 0
        for _ in range(200):
            k, d = room(rng)
            one = small(rng, k, d)
            other = joined(one, ()) if rng.randint(0, 2) == 0 else small(rng, k, d)
            mine, others = points_in(one, -12, 12), points_in(other, -12, 12)
            self.assertEqual(is_within(one, other), mine <= others)
            self.assertEqual(is_same(one, other), mine == others)
            unlike = mine ^ others
            self.assertEqual(parting(one, other), min(unlike, key=nearness) if unlike else None)
            same += mine == others
        self.assertGreater(same, 20)
        self.assertIs(is_within((), ()), True)
        self.assertIsNone(parting(one=(), other=()))

    def test_parting_of_wide_sets(self):
        even, whole = ((0, 1, ()), (((2,),), (0,))), ((0, 1, ()), whole_grid(1))
        self.assertEqual(parting((even,), (whole,)), (-1,))
        self.assertEqual(parting((even,), (even, whole)), (-1,))
        self.assertIsNone(parting((even, ((0, 1, ()), (((2,),), (1,)))), (whole,)))
        far = ((0, 1, ((10 ** 20, -1),)), whole_grid(1))
        self.assertEqual(parting((far,), (whole,)), (10 ** 20 + 1,))


class Finite(unittest.TestCase):
    def test_by_hand(self):
        wide = whole_grid(2)
        self.assertIs(is_finite_set(()), True)
        self.assertIs(is_finite_set((((2, 0, ()), wide),)), True)
        self.assertIs(is_finite_set((((1, 1, ((0, 1, 1), (0, 1, -1))), wide),)), True)
        self.assertIs(is_finite_set((((1, 1, ((0, 1, 1), (0, 1, 0))), wide),)), False)
        self.assertIs(is_finite_set((((0, 2, ((0, 1, -1), (0, -1, 1))), wide),)), False)
        # Along the ray there are no points: the piece has none.
        empty = ((0, 2, ((-1, 2, -2), (1, -2, 2))), wide)
        self.assertIs(is_finite_set((empty,)), True)
        self.assertIsNone(need_finite_set((empty,)))
        self.assertRaises(NotBounded, need_finite_set, (empty, ((0, 2, ((-1, 3, -2), (1, -3, 2))), wide)))
        self.assertEqual(points_at((empty,), (), 3), ())
        self.assertIs(is_finite_set(pieces=(((0, 1, ()), (((5,),), (3,))),)), False)

    def test_at_one_choice_alone(self):
        # Only at p = 7 it goes on, and that is enough.
        piece = ((1, 1, ((-7, 1, 0), (7, -1, 0), (0, 0, 1))), whole_grid(2))
        self.assertIs(is_finite_set((piece,)), False)
        self.assertRaises(NotBounded, points_at, (piece,), (3,), 5)
        never = ((1, 1, ((-7, 2, 0), (7, -2, 0), (0, 0, 1))), whole_grid(2))
        self.assertIs(is_finite_set((never,)), True)
        self.assertEqual(points_at((never,), (3,), 5), ())

    def test_points_at(self):
        rng = random.Random(391)
        for _ in range(200):
            k, d = rng.choice(((0, 1), (1, 1), (0, 2), (2, 1), (1, 2), (0, 0), (1, 0)))
            pieces = []
            for (_, _, rows), grid in random_set(rng, k, d, 2):
                walls = [(rng.randint(0, 3), *[sign * (i == j) for i in range(k + d)]) for j in range(k, k + d) for sign in (1, -1)]
                if k and walls:
                    walls[0] = (walls[0][0], 1, *walls[0][2:])
                pieces.append(((k, d, rows + tuple(walls)), grid))
            p = tuple(rng.randint(-3, 3) for _ in range(k))
            if not is_finite_set(tuple(pieces)):
                self.assertRaises(NotBounded, points_at, tuple(pieces), p, 10000)
                continue
            wanted = tuple(x for x in cube(d, -25, 25) if any(has(piece, (*p, *x)) for piece in pieces))
            if any(abs(entry) == 25 for x in wanted for entry in x):
                continue
            self.assertEqual(points_at(tuple(pieces), p, 10000), wanted)
            if wanted:
                self.assertEqual(points_at(tuple(pieces), p, len(wanted)), wanted)
            if len(wanted) > 1:
                with self.assertRaises(TooMany) as caught:
                    points_at(tuple(pieces), p, len(wanted) - 1)
                self.assertEqual(caught.exception.limit, len(wanted) - 1)

    def test_against_listed(self):
        formula = ("and", ("row", (0, 0, 1, 0)), ("row", (0, 0, 0, 1)), ("row", (0, 1, -2, -3)), ("not", ("divides", 4, (1, 0, 1, 2))))
        pieces = pieces_of(1, 2, formula)
        for p in (-1, 0, 7, 60):
            self.assertEqual(points_at(pieces, (p,), 10000), listed(1, 2, formula, (p,), 0, 60, 0))
        self.assertEqual(points_at(pieces=plain_pieces(1, 2, formula), p=(30,), most=500), listed(1, 2, formula, (30,), 0, 30, 0))

    def test_most(self):
        piece = ((1, 1, ((0, 0, 1), (0, 1, -1))), whole_grid(2))
        self.assertEqual(len(points_at((piece, piece), (9999,), 10000)), 10000)
        for p, most in ((10000, 10000), (10 ** 40, 10000), (1, 1), (10 ** 40, 1)):
            with self.assertRaises(TooMany) as caught:
                points_at((piece,), (p,), most)
            self.assertEqual(caught.exception.limit, most)
        self.assertEqual(points_at((piece,), (0,), 1), ((0,),))
        self.assertEqual(points_at((piece,), (-10 ** 40,), 1), ())

    def test_far_and_thin(self):
        far = 10 ** 40
        piece = ((1, 2, ((0, 1, -7, 5), (0, -1, 7, -5), (0, 0, 1, 0), (30, 0, -1, 0))), whole_grid(3))
        wanted = tuple((x, (7 * x - far) // 5) for x in range(31) if (7 * x - far) % 5 == 0)
        self.assertEqual(points_at((piece,), (far,), 10), wanted)

    def test_wrong_p(self):
        piece = ((1, 1, ((0, 0, 1), (0, 1, -1))), whole_grid(2))
        for p in ((), (1, 2)):
            self.assertRaises(NotFit, points_at, (piece,), p, 5)
            # A wrong p comes ahead of what goes on.
            self.assertRaises(NotFit, points_at, (((1, 1, ()), whole_grid(2)),), p, 5)
        self.assertEqual(points_at((), (1, 2), 5), ())


if __name__ == "__main__":
    unittest.main()
