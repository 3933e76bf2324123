import unittest

from pointtally.answers import answer
from pointtally.claims import opposite
from pointtally.errors import NotClaim, NotSheet
from pointtally.sheets import answered, check_sheet, sheet_breach
from tests.test_claims import CLAIMS, OPEN
from tests.tools import JUNK, deep_nest


class Sheets(unittest.TestCase):
    def same(self, value, place):
        self.assertEqual(sheet_breach(value=value), place)
        if place is None:
            self.assertIs(check_sheet(value=value), value)
        else:
            with self.assertRaises(NotSheet) as caught:
                check_sheet(value)
            self.assertEqual(caught.exception.place, place)

    def test_answered(self):
        claims = tuple(CLAIMS.values())
        sheet = answered(claims=claims)
        self.assertEqual(sheet, tuple(answer(claim) for claim in claims))
        self.same(sheet, None)
        self.same(sheet * 2, None)
        self.same(sheet[::-1], None)
        self.assertEqual(answered(()), ())
        self.same((), None)

    def test_first_error(self):
        fine, bad, worse = CLAIMS["point"], ("empty", 4, 1, OPEN), ("points",)
        for claims, told in (((fine, bad, worse), ("entry", 1)), ((fine, worse, bad), ("kind", 0)), ((None,), ("form", -1)), ((fine, (), bad), ("form", -1))):
            with self.assertRaises(NotClaim) as caught:
                answered(claims)
            self.assertEqual((caught.exception.rule, caught.exception.place), told)

    def test_breach(self):
        for value in JUNK:
            if not isinstance(value, tuple):
                self.same(value, -1)
        sheet = answered(tuple(CLAIMS.values()))
        self.same(list(sheet), -1)
        for i, (saying, paper) in enumerate(sheet):
            for entry in (None, (), [saying, paper], (saying,), (saying, paper, 0), (opposite(saying), paper), (saying[1], paper), (saying, None), (saying, (paper, paper)),
                          (saying, deep_nest(200)), saying, paper):
                self.same((*sheet[:i], entry, *sheet[i + 1:]), i)
                # The first wrong entry is told.
                self.same((*sheet[:i], entry, None), i)
        self.same(((),), 0)
        self.same(deep_nest(200), 0)


if __name__ == "__main__":
    unittest.main()
