import random
import unittest

from pointtally.alike import alike
from pointtally.counting import tally_of, weighted_of
from pointtally.countpapers import counting_breach, counting_paper, number_or_none, paper_and_number, tally_from
from pointtally.errors import NotBounded, NotFormula, NotPaper
from pointtally.falling import empty_paper
from pointtally.formtexts import read_room
from pointtally.listing import listed
from pointtally.rays import has_ray
from pointtally.sets import plain_pieces
from pointtally.tallies import tally_breach, value
from tests.oracles import poly_at, random_poly, tally_at
from tests.test_counting import walls
from tests.test_halltallies import other_paper
from tests.tools import JUNK, deep_nest, random_formula

FAR = 10 ** 40
# A triangle without whole points, though fractions keep its rows.
HOLLOW = ((1, -3, -4), (-1, 4, 1), (0, 0, 1))


def sample(rng, k, d, somes=0):
    """Return a random formula that is finite."""
    return ("and", *walls(rng, k, d), random_formula(rng, k + d, 2, somes, 3))


def other_counting_paper(rng, k, d, formula):
    """Return a counting paper that the program itself would not have made, with empty papers where there are any."""
    told = []
    for piece in plain_pieces(k, d, formula):
        paper = empty_paper(piece) if rng.randint(0, 1) or has_ray(*piece[0]) else None
        told.append(("hall", other_paper(rng, piece[0])) if paper is None else ("empty", paper))
    return tuple(told)


class Papers(unittest.TestCase):
    def test_by_hand(self):
        k, d, _, formula = read_room("for n count i where 0 <= i and 2 i <= n or i = 7 and n < 14")
        paper = counting_paper(k=k, d=d, formula=formula)
        self.assertEqual(len(paper), len(plain_pieces(k, d, formula)))
        self.assertIsNone(counting_breach(k=k, d=d, formula=formula, value=paper))
        tally = tally_from(k=k, d=d, formula=formula, value=paper, weight=None)
        self.assertIsNone(tally_breach(tally, 1))
        for n in range(-5, 30):
            self.assertEqual(tally_at(tally, (n,)), len([i for i in range(50) if 2 * i <= n or (i == 7 and n < 14)]))

    def test_at_one_choice(self):
        # What judge and answer tell of one choice is what the tally of the same paper tells there.
        rng = random.Random(832)
        for _ in range(25):
            k, d = rng.randint(0, 2), rng.randint(0, 2)
            formula, weight = sample(rng, k, d), random_poly(rng, k + d, 3)
            paper = other_counting_paper(rng, k, d, formula)
            tally, weighted = tally_from(k, d, formula, paper), tally_from(k, d, formula, paper, weight)
            for p in [tuple(rng.choice((rng.randint(-9, 9), rng.randint(-FAR, FAR))) for _ in range(k)) for _ in range(4)]:
                self.assertEqual(number_or_none(k, d, formula, paper, None, p), value(tally, p))
                self.assertEqual(number_or_none(k, d, formula, paper, weight, p), value(weighted, p))
                self.assertEqual(paper_and_number(k, d, formula, weight, p), (counting_paper(k, d, formula), value(weighted, p)))
                self.assertIsNone(number_or_none(k, d, formula, (*paper, None), None, p))

    def test_no_pieces(self):
        for formula in (("or",), ("row", (-1, 0, 0)), ("and", ("row", (-1, 1, 1)), ("row", (0, -1, -1)))):
            self.assertEqual(counting_paper(1, 1, formula), ())
            self.assertIsNone(counting_breach(1, 1, formula, ()))
            self.assertEqual(tally_at(tally_from(1, 1, formula, ()), (3,)), 0)
            self.assertEqual(counting_breach(1, 1, formula, (("hall", ()),)), -1)

    def test_no_unknowns(self):
        k, d, _, formula = read_room("for n, m where n <= m and 2 divides (n) or n = 3 and m = 1")
        paper = counting_paper(k, d, formula)
        self.assertEqual({word for word, _ in paper}, {"hall"})
        tally = tally_from(k, d, formula, paper)
        for n in range(-6, 7):
            for m in range(-6, 7):
                self.assertEqual(tally_at(tally, (n, m)), int((n <= m and n % 2 == 0) or (n, m) == (3, 1)))
        for formula, wanted in ((("and",), 1), (("or",), 0)):
            self.assertEqual(tally_at(tally_from(0, 0, formula, counting_paper(0, 0, formula)), ()), wanted)

    def test_both_words(self):
        # A piece that has no point and goes on needs an empty paper; one that has none and ends may have both.
        box = [("row", (3, *[sign * (i == j) for i in range(2)])) for j in range(2) for sign in (1, -1)]
        bare = ("or", ("and", *box), ("and", *[("row", (row[0] - 20 * row[1], *row[1:])) for row in HOLLOW]))
        cube = [("row", (3, *[sign * (i == j) for i in range(3)])) for j in range(3) for sign in (1, -1)]
        prism = [("row", (*row, 0)) for row in HOLLOW]
        wide = ("or", ("and", *cube), ("and", *prism))
        for d, told, count in ((2, bare, 49), (3, wide, 343)):
            pieces = plain_pieces(0, d, told)
            self.assertGreater(len(pieces), 1)
            paper = counting_paper(0, d, told)
            self.assertIsNone(counting_breach(0, d, told, paper))
            self.assertEqual(paper[0][0], "hall")
            with_empty = (paper[0], *[("empty", empty_paper(piece)) for piece in pieces[1:]])
            self.assertIsNone(counting_breach(0, d, told, with_empty))
            self.assertEqual(counting_breach(0, d, told, (("empty", with_empty[1][1]), *with_empty[1:])), 0)
            for value in (paper, with_empty):
                self.assertEqual(tally_at(tally_from(0, d, told, value), ()), count)
        self.assertIn("empty", [word for word, _ in paper])

    def test_random(self):
        rng = random.Random(831)
        words = set()
        for _ in range(60):
            k, d = rng.randint(0, 2), rng.randint(0, 2)
            formula, weight = sample(rng, k, d, 1 if rng.randint(0, 3) == 0 else 0), random_poly(rng, k + d, 4)
            if d == 2 and k == 0:
                formula = ("or", formula, ("and", *[("row", (row[0] - 20 * row[1], *row[1:])) for row in HOLLOW]))
            try:
                papers = counting_paper(k, d, formula), other_counting_paper(rng, k, d, formula)
            except NotBounded:
                continue
            for paper in papers:
                words |= {word for word, _ in paper}
                self.assertIsNone(counting_breach(k, d, formula, paper))
                tally, weighted = tally_from(k, d, formula, paper), tally_from(k, d, formula, paper, weight)
                self.assertIsNone(tally_breach(tally, k))
                self.assertIsNone(tally_breach(weighted, k))
                if "some" not in str(formula):
                    for _ in range(3):
                        p = tuple(rng.randint(-5, 5) for _ in range(k))
                        there = listed(k, d, formula, p, -15, 15, 0)
                        self.assertEqual(tally_at(tally, p), len(there))
                        self.assertEqual(tally_at(weighted, p), sum(poly_at(weight, (*p, *x)) for x in there))
                self.assertIsNone(alike(tally, tally_of(k, d, formula), k))
                self.assertIsNone(alike(weighted, weighted_of(k, d, formula, weight), k))
                far = tuple(rng.randint(-FAR, FAR) for _ in range(k))
                self.assertEqual(tally_at(weighted, far), tally_at(weighted_of(k, d, formula, weight), far))
        self.assertEqual(words, {"hall", "empty"})


class Breach(unittest.TestCase):
    def test_bent(self):
        k, d, _, formula = read_room("for n count i where 0 <= i and 2 i <= n and not 3 divides (i) or 2 i = 9 and n > 3 or 20 <= i and i <= n")
        paper = counting_paper(k, d, formula)
        self.assertGreater(len(paper), 3)
        for value in (*JUNK, list(paper), paper[1:], (*paper, paper[0]), paper[0], (*paper[:-1], None), (*paper[:-1], ("halls", ())), (*paper[:-1], ["hall", ()]),
                      (*paper[:-1], ("hall",)), (*paper[:-1], ("hall", (), ())), deep_nest(200)):
            self.assertEqual(counting_breach(k, d, formula, value), -1)
            with self.assertRaises(NotPaper) as caught:
                tally_from(k, d, formula, value)
            self.assertEqual(caught.exception.path, (-1,))
        for i, (word, own) in enumerate(paper):
            for bad in (None, (), [own], (own,), deep_nest(150), ((0,), own[1]) if word == "hall" else ("never", ()), (own[0], own[1][1:])):
                for behind in (paper[i + 1:], tuple(("empty", 7) for _ in paper[i + 1:])):
                    value = (*paper[:i], (word, bad), *behind)
                    self.assertEqual(counting_breach(k, d, formula, value), i)
                    with self.assertRaises(NotPaper) as caught:
                        tally_from(k, d, formula, value, ())
                    self.assertEqual(caught.exception.path, (i,))

    def test_of_another_formula(self):
        one, other = ("and", ("row", (0, 0, 1)), ("row", (0, 1, -2))), ("and", ("row", (0, 0, 1)), ("row", (0, 1, -1)), ("row", (50, -1, -1)))
        paper = counting_paper(1, 1, other)
        self.assertEqual(counting_breach(1, 1, one, paper), 0)
        self.assertIsNone(counting_breach(1, 1, other, paper))
        # Papers hang on the pieces alone: that of a room twice as wide is right here, too.
        twice = ("and", ("row", (0, 0, 2)), ("row", (0, 1, -2)))
        self.assertIsNone(counting_breach(1, 1, twice, counting_paper(1, 1, one)))

    def test_not_finite(self):
        # There is no paper, but a value may be asked about.
        formula = ("or", ("and", ("row", (0, 0, 1)), ("row", (0, 1, -1))), ("row", (-9, 0, 1)))
        pieces = plain_pieces(1, 1, formula)
        self.assertRaises(NotBounded, counting_paper, 1, 1, formula)
        for value in ((), None, (("hall", ((1,), ())),) * len(pieces), (("empty", ("never", (1,))),) * len(pieces)):
            self.assertIsNotNone(counting_breach(1, 1, formula, value))
            self.assertRaises(NotPaper, tally_from, 1, 1, formula, value)

    def test_not_formula(self):
        for value in JUNK:
            for call in (lambda f: counting_paper(1, 1, f), lambda f: counting_breach(1, 1, f, ()), lambda f: counting_breach(1, 1, f, None)):
                with self.assertRaises(NotFormula) as caught:
                    call(value)
                self.assertIn(caught.exception.path, ((), (1,)))
        with self.assertRaises(NotFormula) as caught:
            counting_paper(1, 1, ("or", ("row", (0, 0, 1)), ("not", ("row", (0, 0, 1, 0)))))
        self.assertEqual(caught.exception.path, (2, 1, 1))


if __name__ == "__main__":
    unittest.main()
