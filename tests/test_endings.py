import random
import unittest

from pointtally.endings import goes_on
from pointtally.formtexts import read_room
from pointtally.sets import is_finite_set, pieces_of
from tests.test_counting import walls
from tests.tools import random_formula


class Endings(unittest.TestCase):
    def test_by_hand(self):
        for text, told in (("for n count i where some j (i = 2 j and 0 <= j and j <= n)", False), ("count i where some j (i = 2 j and 0 <= j)", True),
                           ("count i where some j (i >= 0 and i <= 5 and j >= i)", False), ("count i where not some j (i <= j and j <= 0 or j = i - 9)", False),
                           ("count i where i >= 0 and not some j (i = j and j >= 9)", False), ("count i where (some j (i = j and j >= 0)) and some l (i = 0 - l and l >= 0)", False),
                           ("count i, j where (i >= 0 and i <= 3 or j >= 0 and j <= 3) and (i >= 0 and i <= 9)", True),
                           ("count i, j where i >= 0 and i <= 3 and some l (l = j + i and l >= 0 and l <= 7)", False),
                           ("count i, j where 3 i = 3 j + 1 and i >= 0", False), ("count i where 2 divides (i) and not 4 divides (i) and 4 divides (3 i)", False)):
            k, d, _, formula = read_room(text)
            self.assertIs(goes_on(k, d, formula), told, text)

    def test_random(self):
        rng = random.Random(621)
        seen = {True: 0, False: 0}
        for _ in range(250):
            k, d = rng.randint(0, 1), rng.randint(0, 2)
            formula = random_formula(rng, k + d, 3, 2, 2)
            if rng.randint(0, 1):
                formula = ("and", formula, *walls(rng, k, d)[rng.randint(0, 2):])
            told = goes_on(k, d, formula)
            self.assertIs(told, not is_finite_set(pieces_of(k, d, formula)))
            seen[told] += 1
        self.assertGreater(min(seen.values()), 60)


if __name__ == "__main__":
    unittest.main()
