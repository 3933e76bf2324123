"""What is promised over the whole program: all roads tell one and the same number."""

import random
import unittest

from pointtally.alike import alike
from pointtally.answers import answer
from pointtally.claims import opposite
from pointtally.counting import count_at, tally_of
from pointtally.countpapers import counting_paper, tally_from
from pointtally.desk import Desk
from pointtally.formtexts import read_room, room_text
from pointtally.judging import judge
from pointtally.nesttallies import cells_formula, cells_tally, rounds_formula, rounds_tally
from pointtally.onebyone import count_by_sums, tally_by_sums
from pointtally.parts import parts
from pointtally.sets import pieces_of, points_at
from pointtally.sheets import answered, sheet_breach
from pointtally.tallies import value
from tests.oracles import tally_at
from tests.test_nesttallies import PRODUCT, STENCIL, STEPS
from tests.test_parts import holding
from tests.walks import cells_of, counters_of, random_nest, walk

FAR = 10 ** 40


class Roads(unittest.TestCase):
    def numbers(self, k, d, formula, p, tally):
        """Return the numbers that all roads tell at p; they are to be one."""
        told = [tally_of(k, d, formula), tally_by_sums(k, d, formula), tally_from(k, d, formula, counting_paper(k, d, formula)), tally]
        found = [value(one, p)[0] for one in told] + [count_at(k, d, formula, p), count_by_sums(k, d, formula, p)]
        (word, claim), paper = answer(("count", k, d, formula, p, found[0]))
        self.assertEqual(word, "is")
        self.assertIs(judge((word, claim), paper), True)
        wrong = ("count", k, d, formula, p, found[0] + 1)
        saying, paper = answer(wrong)
        self.assertEqual((saying, paper[0]), (("not", wrong), found[0]))
        self.assertIs(judge(saying, paper), True)
        self.assertIs(judge(opposite(saying), paper), False)
        return set(found)

    def test_rounds(self):
        for one, p in ((STENCIL, (9,)), (PRODUCT, (4, 3)), (STEPS, (-5, 17))):
            rounds = walk(one, p)
            for s, many in enumerate(counters_of(one)):
                formula, tally = rounds_formula(one, s), rounds_tally(one, s)
                number = sum(own == s for own, _, _ in rounds)
                self.assertEqual(self.numbers(one[1], many, formula, p, tally), {number})
                far = tuple(FAR - i for i in range(one[1]))
                self.assertEqual(len(self.numbers(one[1], many, formula, far, tally)), 1)

    def test_cells(self):
        for one, p, array, d in ((STENCIL, (9,), "a", 1), (STEPS, (8, 11), "x", 1), (PRODUCT, (4, 3), "c", 2)):
            formula, tally = cells_formula(one, array, "any"), cells_tally(one, array, "any")
            self.assertEqual(self.numbers(one[1], d, formula, p, tally), {len(cells_of(walk(one, p), array, "any"))})
            far = tuple(FAR - i for i in range(one[1]))
            self.assertEqual(len(self.numbers(one[1], d, formula, far, tally)), 1)

    def test_random_nests(self):
        rng = random.Random(1001)
        for _ in range(25):
            k = rng.randint(0, 2)
            one = random_nest(rng, k, 2, 2, (1, 1, 2), 1)
            p = tuple(rng.randint(-2, 5) for _ in range(k))
            rounds = walk(one, p)
            for s, many in enumerate(counters_of(one)):
                formula = rounds_formula(one, s)
                self.assertEqual(self.numbers(k, many, formula, p, rounds_tally(one, s)), {sum(own == s for own, _, _ in rounds)})
                self.assertEqual(len(points_at(pieces_of(k, many, formula), p, 10000)), sum(own == s for own, _, _ in rounds))

    def test_one_answer_for_all_sizes(self):
        # "alike" and "tells" of tallies that were made on different roads.
        for text in ("for n count i, j where 0 <= i and 2 i <= j and j <= n and 3 divides (i + j)", "for n count i where some j (i = 2 j and 0 <= j and 3 j <= n)",
                     "for n, m count i where n <= 2 i and 3 i <= m + n and not 2 divides (i)"):
            k, d, names, formula = read_room(text)
            self.assertEqual(read_room(room_text(k, d, names, formula)), (k, d, names, formula))
            one, other = tally_of(k, d, formula), tally_by_sums(k, d, formula)
            desk = Desk((("room", (k, d, formula)), ("same", (k, d, ("named", "room", tuple(tuple(int(j == i + 1) for j in range(k + d + 1)) for i in range(k + d)))))))
            self.assertIsNone(alike(desk.tally("same"), other, k))
            self.assertIs(desk.kept("room"), True)
            sheet = answered((("alike", k, one, other), ("tells", k, d, formula, other) if k < 2 else ("finite", k, d, formula)))
            self.assertEqual([saying[0] for saying, _ in sheet], ["is", "is"])
            self.assertIsNone(sheet_breach(sheet))
            told = parts(other, k)
            for p in ((7, 5), (-3, 8), (FAR, FAR + 2)):
                polys = holding(told, p[:k])
                self.assertEqual(sum(tally_at((((), (), tuple((1, tuple(int(j == i + 1) for j in range(k + 1))) for i in range(k)), poly),), p[:k]) for poly in polys),
                                 count_at(k, d, formula, p[:k]))


if __name__ == "__main__":
    unittest.main()
