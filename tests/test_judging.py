import random
import unittest
from fractions import Fraction

from pointtally.alike import alike
from pointtally.answers import answer
from pointtally.claims import KINDS, claim_breach, opposite, size_of
from pointtally.counting import count_at, is_finite, tally_of, weighted_of
from pointtally.errors import NotClaim
from pointtally.formtexts import read_room
from pointtally.judging import judge
from pointtally.listing import holds_within, listed
from pointtally.sets import plain_pieces
from pointtally.tallies import added, constant, scaled, value
from tests.oracles import poly_at, random_poly, tally_at
from tests.test_alike import at_points, order, random_tally, searched
from tests.test_claims import BOX, CLAIMS, OPEN
from tests.test_counting import walls
from tests.test_countpapers import HOLLOW, other_counting_paper
from tests.tools import JUNK, cube, deep_nest, random_formula, replaced_everywhere

FAR = 10 ** 40


def is_paper(value):
    """Tell whether a value holds tuples, integers and strings alone."""
    return all(is_paper(part) for part in value) if type(value) is tuple else type(value) in (int, str)


class Both(unittest.TestCase):
    """Each claim is asked of answer and of the judge; what is so is known by other ways."""

    def ask(self, claim, is_so):
        self.assertIsNone(claim_breach(claim))
        saying, paper = answer(claim=claim)
        self.assertEqual(saying, ("is" if is_so else "not", claim))
        self.assertTrue(is_paper(paper))
        self.assertGreaterEqual(size_of(paper), 0)
        self.assertIs(judge(saying=saying, value=paper), True)
        self.assertIs(judge(opposite(saying), paper), False)
        for bad in (*JUNK[:12], [paper], (paper,), (*paper, 0), list(paper)):
            if bad != paper:
                self.assertIs(judge(saying, bad), False, bad)
                self.assertIs(judge(opposite(saying), bad), False, bad)
        return paper


class Points(Both):
    def test_by_hand(self):
        k, d, _, formula = read_room("for n count i where some j (i = 2 j and j >= n) or i = 7")
        for t, told in (((3, 6), True), ((3, 4), False), ((3, 7), True), ((FAR, FAR), False), ((-FAR, -FAR), True), ((-FAR, 1 - FAR), False)):
            self.assertEqual(self.ask(("point", k, d, formula, t), told), ())
        self.ask(("point", 0, 0, ("and",), ()), True)
        self.ask(("point", 0, 0, ("or",), ()), False)

    def test_random(self):
        rng = random.Random(841)
        for _ in range(60):
            k, d = rng.randint(0, 2), rng.randint(0, 2)
            formula = random_formula(rng, k + d, 3, 0, 3)
            t = tuple(rng.randint(-5, 5) for _ in range(k + d))
            self.ask(("point", k, d, formula, t), holds_within(formula, t, 0))


class Emptiness(Both):
    def test_by_hand(self):
        self.assertEqual(self.ask(("empty", 1, 1, ("or",)), True), ())
        self.ask(("empty", 0, 0, ("and",)), False)
        hollow = ("and", *[("row", row) for row in HOLLOW])
        paper = self.ask(("empty", 0, 2, hollow), True)
        # Weights that are taken three times show the same; of another formula they show nothing.
        self.assertIs(judge(("is", ("empty", 0, 2, ("and", hollow, ("row", (50, 1, 1))))), paper), False)
        thin = ("and", ("row", (-1, 3, -3)), ("row", (2, -3, 3)))
        self.assertEqual(self.ask(("empty", 0, 2, thin), True), ())
        _, d, _, told = read_room("count i where some j (3 i = 6 j + 1)")
        self.ask(("empty", 0, d, told), True)

    def test_other_papers(self):
        claim = ("empty", 0, 2, ("and", *[("row", row) for row in HOLLOW]))
        paper = self.ask(claim, True)

        def tripled(part):
            if part[0] == "never":
                return ("never", tuple(3 * weight for weight in part[1]))
            return (part[0], tuple(tripled(inner) for inner in part[1]))

        self.assertIs(judge(("is", claim), tuple(tripled(part) for part in paper)), True)
        seen = 0
        for bad in replaced_everywhere(paper, (deep_nest(150), 10 ** 400)):
            seen += 1
            if judge(("is", claim), bad):
                # A weight may be another one that shows the same, or stand at a row that it leaves as it is.
                self.assertEqual(str(bad).count("("), str(paper).count("("))
        self.assertGreater(seen, 100)
        other = ("empty", 0, 1, ("row", (-9, 1)))
        self.assertEqual([judge(("not", other), value) for value in (((9,),), ((FAR,),), ((10 ** 90,),), ((8,),), (9,), ((9, 0),), ((True,),), ())], [True, True, True] + [False] * 5)

    def test_random(self):
        rng = random.Random(842)
        told = {True: 0, False: 0}
        for _ in range(120):
            k, d = rng.randint(0, 1), rng.randint(0, 2)
            formula = ("and", random_formula(rng, k + d, 2, 0, 2), ("not", random_formula(rng, k + d, 2, 0, 2)), *walls(rng, k + d, 0),
                       *[("row", (4, *[sign * (i == j) for i in range(k + d)])) for j in range(k + d) for sign in (1, -1)])
            is_so = not any(holds_within(formula, t, 0) for t in cube(k + d, -4, 4))
            told[is_so] += 1
            paper = self.ask(("empty", k, d, formula), is_so)
            self.assertTrue(is_so or holds_within(formula, paper[0], 0))
        self.assertGreater(min(told.values()), 25)


class Ends(Both):
    def test_by_hand(self):
        self.ask(("finite", 1, 1, BOX), True)
        t, h = self.ask(("finite", 1, 1, OPEN), False)
        self.assertTrue(h[0] > 0 and holds_within(OPEN, t, 0))
        self.assertEqual(self.ask(("finite", 2, 3, ("or",)), True), ())
        self.ask(("finite", 2, 0, ("and",)), True)
        prism = ("and", *[("row", (*row, 0)) for row in HOLLOW])
        paper = self.ask(("finite", 0, 3, prism), True)
        self.assertEqual(paper[0][0], "empty")

    def test_other_papers(self):
        claim = ("finite", 1, 1, BOX)
        ((word, pairs),) = self.ask(claim, True)
        self.assertEqual(word, "bounds")
        twice = tuple(tuple((2 * n, tuple(2 * factor for factor in factors)) for n, factors in pair) for pair in pairs)
        self.assertIs(judge(("is", claim), (("bounds", twice),)), True)
        for bad in ((("bounds", pairs), ("bounds", pairs)), (), (("bound", pairs),), (("bounds", pairs[::-1] + pairs),), (("ray", (1,)),), (("empty", pairs),)):
            self.assertIs(judge(("is", claim), bad), False)
        # A piece without points may have bounds or an empty paper.
        hollow = ("finite", 0, 2, ("and", *[("row", row) for row in HOLLOW]))
        bounds, empty = answer(hollow)[1], answer(("empty", 0, 2, hollow[3]))[1]
        self.assertEqual(bounds[0][0], "bounds")
        self.assertIs(judge(("is", hollow), (("empty", empty[0]),)), True)

    def test_ways_on(self):
        # On a grid: i = 2 j, j from n on.
        k, d, _, formula = read_room("for n count i, j where i = 2 j and 3 divides (j) and j >= n")
        claim = ("not", ("finite", k, d, formula))
        self.assertIs(judge(claim, ((5, 12, 6), (6, 3))), True)
        self.assertIs(judge(claim, ((5, 12, 6), (60, 30))), True)
        self.assertIs(judge(claim, ((-FAR, 0, 0), (6, 3))), True)
        for t, h in (((5, 12, 6), (2, 1)), ((5, 12, 6), (-6, -3)), ((5, 12, 6), (0, 0)), ((5, 12, 6), (6, 4)), ((7, 12, 6), (6, 3)), ((5, 12, 5), (6, 3)),
                     ((5, 12), (6, 3)), ((5, 12, 6), (6,)), ((5, 12, 6), [6, 3]), ((5, 12, True), (6, 3))):
            self.assertIs(judge(claim, (t, h)), False)
        # Of two pieces, just one goes on: the point must be in it.
        k, d, _, formula = read_room("count i where i >= 10 or i <= 3 and i >= 0")
        claim = ("not", ("finite", k, d, formula))
        self.assertEqual(len(plain_pieces(k, d, formula)), 2)
        self.assertEqual([judge(claim, ((i,), (h,))) for i, h in ((10, 1), (12, 5), (3, 1), (0, 1), (9, 1), (11, -1))], [True, True] + [False] * 4)

    def test_random(self):
        rng = random.Random(843)
        told = {True: 0, False: 0}
        for _ in range(80):
            k, d = rng.randint(0, 1), rng.randint(0, 2)
            formula = random_formula(rng, k + d, 2, 1, 2)
            if rng.randint(0, 1):
                formula = ("and", formula, *walls(rng, k, d)[rng.randint(0, 1):])
            is_so = is_finite(k, d, formula)
            told[is_so] += 1
            self.ask(("finite", k, d, formula), is_so)
        self.assertGreater(min(told.values()), 15)


class Counts(Both):
    def test_by_hand(self):
        k, d, _, formula = read_room("for n count i, j where 0 <= i and i <= j and j < n")
        for n, number in ((5, 15), (0, 0), (-FAR, 0), (FAR, FAR * (FAR + 1) // 2)):
            for wrong in (0, 1, 7):
                claim = ("count", k, d, formula, (n,), number + wrong)
                paper = self.ask(claim, wrong == 0)
                if wrong:
                    self.assertEqual(paper[0], number)
                    self.assertIs(judge(("not", claim), (number + wrong, paper[1])), False)
                    self.assertIs(judge(("not", claim), (number + 2 * wrong, paper[1])), False)
                    self.assertIs(judge(("not", claim), ((number, 1), paper[1])), False)
                    self.assertIs(judge(("not", claim), (True, paper[1])), False)

    def test_sums(self):
        k, d, _, formula = read_room("for n count i where 0 <= i and 2 i <= n")
        weight = (((1, 3), (0, 2)), ((1, 1), (1, 0)))
        number = Fraction(sum(Fraction(i * i, 3) + 9 for i in range(5)))
        pair = (number.numerator, number.denominator)
        paper = self.ask(("sum", k, d, formula, weight, (9,), pair), True)
        other = self.ask(("sum", k, d, formula, weight, (9,), (7, 2)), False)
        self.assertEqual(other, (pair, *paper))
        self.assertIs(judge(("not", ("sum", k, d, formula, weight, (9,), (7, 2))), ((2 * pair[0], 2 * pair[1]), *paper)), False)
        self.assertIs(judge(("not", ("sum", k, d, formula, weight, (9,), (7, 2))), ((7, 2), *paper)), False)
        self.ask(("sum", k, d, formula, (), (9,), (0, 1)), True)
        self.ask(("sum", k, d, formula, (), (9,), (5, 1)), False)
        self.ask(("sum", k, d, formula, (((1, 1), (0, 0)),), (FAR,), (FAR // 2 + 1, 1)), True)

    def test_random(self):
        rng = random.Random(844)
        for _ in range(50):
            k, d = rng.randint(0, 2), rng.randint(0, 2)
            formula, weight = ("and", *walls(rng, k, d), random_formula(rng, k + d, 2, 0, 3)), random_poly(rng, k + d, 4)
            p, far = tuple(rng.randint(-5, 5) for _ in range(k)), tuple(rng.randint(-FAR, FAR) for _ in range(k))
            there = listed(k, d, formula, p, -15, 15, 0)
            number = sum((poly_at(weight, (*p, *x)) for x in there), Fraction(0))
            paper = self.ask(("count", k, d, formula, p, len(there)), True)
            self.ask(("sum", k, d, formula, weight, p, (number.numerator, number.denominator)), True)
            self.ask(("count", k, d, formula, p, len(there) + 1), False)
            # Whichever counting paper it is.
            other = other_counting_paper(rng, k, d, formula)
            self.assertIs(judge(("is", ("count", k, d, formula, p, len(there))), (other,)), True)
            self.assertIs(judge(("not", ("count", k, d, formula, p, len(there) + 1)), (len(there), other)), True)
            self.assertIs(judge(("is", ("count", k, d, formula, far, count_at(k, d, formula, far))), (other,)), True)
            self.assertIs(judge(("is", ("sum", k, d, formula, weight, far, value(weighted_of(k, d, formula, weight), far))), (other,)), True)
            if other and paper[0]:
                for i in range(len(other)):
                    bad = (*other[:i], (other[i][0], None), *other[i + 1:])
                    self.assertIs(judge(("is", ("count", k, d, formula, p, len(there))), (bad,)), False)

    def test_tells(self):
        rng = random.Random(845)
        for _ in range(30):
            k = rng.randint(0, 2)
            d = 1 if k == 2 else rng.randint(0, 2)
            formula = ("and", *walls(rng, k, d), random_formula(rng, k + d, 2, 0, 3))
            tally = tally_of(k, d, formula)
            self.ask(("tells", k, d, formula, tally), True)
            half = scaled(added(tally[::-1], tally), (1, 2))
            self.ask(("tells", k, d, formula, half), True)
            other = other_counting_paper(rng, k, d, formula)
            self.assertIs(judge(("is", ("tells", k, d, formula, half)), (other,)), True)
            far = tuple(rng.choice((-1, 1)) * rng.randint(10 ** 6, 10 ** 9) for _ in range(k))
            wrong = added(tally, at_points(k, {far: 1}))
            p, n, _ = self.ask(("tells", k, d, formula, wrong), False)
            self.assertEqual((p, n), (far, count_at(k, d, formula, far)))
            saying = ("not", ("tells", k, d, formula, wrong))
            self.assertIs(judge(saying, (p, n, other)), True)
            for bad in ((p, n + 1, other), (p, (n, 1), other), (p, n), (list(p), n, other), (p, n, None)):
                self.assertIs(judge(saying, bad), False)
            if k:
                near = (0,) * k
                self.assertIs(judge(saying, (near, count_at(k, d, formula, near), other)), False)


class Within(Both):
    def test_by_hand(self):
        k, d, _, one = read_room("for n count i where 2 i >= n and 6 divides (i)")
        _, _, _, other = read_room("for n count i where some j (i = 3 j) and i >= n - i")
        self.ask(("within", k, d, one, other), True)
        point = self.ask(("within", k, d, other, one), False)[0]
        self.assertTrue(point[1] % 6 == 3 and 2 * point[1] >= point[0])
        self.assertIs(judge(("not", ("within", k, d, other, one)), ((FAR, 3 + 6 * FAR),)), True)
        for bad in (((0, 6),), ((0, 4),), ((9, 3),), ((0,),), (0, 3)):
            self.assertIs(judge(("not", ("within", k, d, other, one)), bad), False)
        self.assertEqual(self.ask(("within", 0, 0, ("or",), ("or",)), True), ())
        self.ask(("within", 0, 0, ("and",), ("or",)), False)

    def test_random(self):
        rng = random.Random(846)
        told = {True: 0, False: 0}
        for _ in range(60):
            d = rng.randint(0, 2)
            box = [("row", (4, *[sign * (i == j) for i in range(d)])) for j in range(d) for sign in (1, -1)]
            f, g = ("and", *box, random_formula(rng, d, 2, 0, 2)), random_formula(rng, d, 2, 0, 2)
            if rng.randint(0, 1):
                g = ("or", g, ("and", f, ("row", (3, *[1] * d))))
            is_so = all(holds_within(g, t, 0) for t in cube(d, -4, 4) if holds_within(f, t, 0))
            told[is_so] += 1
            self.ask(("within", 0, d, f, g), is_so)
        self.assertGreater(min(told.values()), 15)


class Tallies(Both):
    def test_random(self):
        rng = random.Random(847)
        for _ in range(60):
            k = rng.randint(0, 2)
            one, other = random_tally(rng, k, 2, 4), random_tally(rng, k, 2, 4)
            if rng.randint(0, 1):
                other = added(one[::-1], at_points(k, {tuple(rng.randint(-3, 3) for _ in range(k)): 1}) if rng.randint(0, 2) else ())
            first = searched(one, other, k, 8 if k < 2 else 5) or alike(one, other, k)
            paper = self.ask(("alike", k, one, other), first is None)
            if first is not None:
                self.assertNotEqual(tally_at(one, paper[0]), tally_at(other, paper[0]))
                self.assertEqual(self.ask(("parting", k, one, other, first), True), ())
            for p in [tuple(rng.randint(-4, 4) for _ in range(k)) for _ in range(3)]:
                if p != first:
                    told = self.ask(("parting", k, one, other, p), False)
                    if tally_at(one, p) == tally_at(other, p):
                        self.assertEqual(told, ())
                    else:
                        self.assertLess(order(told[0]), order(p))

    def test_parting_by_hand(self):
        tally = at_points(1, {(-4,): 1, (4,): 2, (7,): 1})
        for p, is_so in (((-4,), True), ((4,), False), ((7,), False), ((5,), False), ((FAR,), False), ((-7,), False)):
            self.ask(("parting", 1, tally, (), p), is_so)
        saying = ("not", ("parting", 1, tally, (), (7,)))
        self.assertEqual([judge(saying, value) for value in (((-4,),), ((4,),), ((7,),), ((5,),), (), ((8,),), (4,), ((4, 0),))], [True, True] + [False] * 6)
        self.assertIs(judge(("not", ("parting", 1, tally, (), (5,))), ((4,),)), False)
        self.assertIs(judge(("not", ("parting", 1, tally, (), (4,))), ((-4,),)), True)
        self.assertIs(judge(("not", ("parting", 1, tally, (), (-4,))), ((4,),)), False)
        self.ask(("parting", 0, constant((1, 2)), (), ()), True)
        self.ask(("parting", 0, (), (), ()), False)
        self.assertIs(judge(("not", ("alike", 1, tally, ())), ((10 ** 50,),)), False)
        self.assertIs(judge(("not", ("alike", 1, constant((1, 2)), ())), ((10 ** 50,),)), True)


class Wrong(unittest.TestCase):
    def test_no_sayings(self):
        for saying in (*JUNK, *CLAIMS.values(), ("is", None), ("is", ("point",)), ("so", CLAIMS["point"]), ["is", CLAIMS["point"]],
                       ("is", ("point", 1, 1, OPEN, (10 ** 40 + 1, 0))), ("not", ("count", 1, 1, OPEN, (0,), 0)), deep_nest(200)):
            for paper in ((), ((),), None, 5):
                self.assertIs(judge(saying, paper), False)

    def test_no_papers(self):
        papers = (*JUNK, deep_nest(200), tuple(range(10000)), (10 ** 400,), ((10 ** 400,),), ((), (), ()), ("is", ()), (((1,), ()),), ((("hall", ()),),), ((("empty", ()),),))
        for claim in CLAIMS.values():
            saying, own = answer(claim)
            for paper in papers:
                self.assertIs(judge(opposite(saying), paper), False)
                if paper != own and (claim[0], paper) != ("alike", ((10 ** 400,),)):
                    self.assertIs(judge(saying, paper), False)

    def test_errors(self):
        for value, told in ((None, ("form", -1)), (("kind",), ("kind", 0)), (("point",), ("many", -1)), (("empty", 4, 1, OPEN), ("entry", 1)),
                            (("count", 1, 1, OPEN, None, None), ("entry", 3)), (("alike", 1, (), None), ("entry", 3))):
            with self.assertRaises(NotClaim) as caught:
                answer(value)
            self.assertEqual((caught.exception.rule, caught.exception.place), told)

    def test_bent_papers(self):
        # Papers bent at one place: what the judge takes still shows what is so, and it never raises.
        taken = 0
        for claim in CLAIMS.values():
            saying, paper = answer(claim)
            for bad in replaced_everywhere(paper):
                taken += judge(saying, bad)
                self.assertIs(judge(opposite(saying), bad), False)
        self.assertLess(taken, 40)

    def test_all_kinds_are_asked(self):
        self.assertEqual(tuple(CLAIMS), KINDS)


if __name__ == "__main__":
    unittest.main()
