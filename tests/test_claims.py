import unittest

from pointtally.claims import KINDS, claim_breach, opposite, saying_breach, size_of
from tests.tools import JUNK, deep_nest

FAR = 10 ** 40
BOX = ("and", ("row", (0, 0, 1)), ("row", (0, 1, -1)))
OPEN = ("row", (0, 0, 1))
TALLY = ((((0, 1),), ((2, (0, 1)),), ((3, (1, 1)),), (((1, 2), (1,)),)),)
WEIGHT = (((1, 2), (1, 3)),)
CLAIMS = {
    "point": ("point", 1, 1, OPEN, (FAR, -FAR)),
    "empty": ("empty", 1, 1, OPEN),
    "finite": ("finite", 1, 1, OPEN),
    "count": ("count", 1, 1, BOX, (-FAR,), 10 ** 100),
    "sum": ("sum", 1, 1, BOX, WEIGHT, (FAR,), (-7, 3)),
    "tells": ("tells", 1, 1, BOX, TALLY),
    "within": ("within", 1, 1, OPEN, BOX),
    "alike": ("alike", 1, TALLY, ()),
    "parting": ("parting", 1, TALLY, (), (FAR,)),
}
WRONG = {
    "k": (-1, 4, True, "1", None, 1.0, (1,)),
    "d": (-1, 7, False, "1", None, [1]),
    "formula": (None, (), ("row", (0, 0)), ("row", (0, 0, 0, 0)), ("and", ("or",), 7), ["and"], ("named", "a", ())),
    "ending": (OPEN, None, (), ("and", ("or",), 7), ("not", BOX)),
    "t": ((), (0,), (0, 0, 0), [0, 0], (0, True), (FAR + 1, 0), (0, -FAR - 1), None),
    "p": ((), (0, 0), [0], (True,), (FAR + 1,), (-FAR - 1,), None, 0),
    "n": (-1, True, None, "1", 1.0, (1, 1)),
    "weight": (None, [], (((1, 2), (1,)),), (((2, 4), (0, 1)),), (((1, 1), (0, 5)),), (((1, 1), (2, 3)),), (((0, 1), (0, 0)),)),
    "fraction": (0, (2, 4), (1, 0), (1, -1), (1,), [1, 2], None, (True, 1)),
    "tally": (None, [], (7,), ((((0, 1, 1),), (), (), ()),), ((((0, 1),), (), (), (((1, 1), (1,)),)),)),
}
ENTRIES = {
    "point": "k d formula t", "empty": "k d formula", "finite": "k d formula", "count": "k d ending p n", "sum": "k d ending weight p fraction",
    "tells": "k d ending tally", "within": "k d formula formula", "alike": "k tally tally", "parting": "k tally tally p",
}


class Claims(unittest.TestCase):
    def test_kinds(self):
        self.assertEqual(KINDS, ("point", "empty", "finite", "count", "sum", "tells", "within", "alike", "parting"))
        self.assertEqual(tuple(CLAIMS), KINDS)

    def test_sound(self):
        for claim in CLAIMS.values():
            self.assertIsNone(claim_breach(value=claim))
            for word in ("is", "not"):
                self.assertIsNone(saying_breach(value=(word, claim)))
                self.assertEqual(opposite(saying=(word, claim)), ("not" if word == "is" else "is", claim))
        for claim in (("count", 0, 0, ("and",), (), 0), ("empty", 3, 6, ("and",)), ("alike", 3, (), ()), ("alike", 0, (), ((), )[:0]),
                      ("sum", 0, 1, ("or",), (), (), (0, 1)), ("sum", 0, 1, ("or",), (((1, 1), (4,)),), (), (0, 1))):
            self.assertIsNone(claim_breach(claim))

    def test_form(self):
        for value in (*[value for value in JUNK if not (isinstance(value, tuple) and value and isinstance(value[0], str))], list(CLAIMS["empty"]), (b"empty", 1, 1, OPEN),
                      (("empty",), 1, 1, OPEN), deep_nest(200)):
            self.assertEqual(claim_breach(value), ("form", -1), value)
            self.assertEqual(saying_breach(("is", value)), ("form", -1))

    def test_kind(self):
        for value in (("",), ("points", 1, 1, OPEN), ("Empty", 1, 1, OPEN), ("is", CLAIMS["empty"])):
            self.assertEqual(claim_breach(value), ("kind", 0))

    def test_many(self):
        for claim in CLAIMS.values():
            for value in (claim[:-1], (*claim, 0), claim[:1], (claim[0], None, *claim[1:])):
                self.assertEqual(claim_breach(value), ("many", -1))

    def test_entries(self):
        for kind, claim in CLAIMS.items():
            for i, name in enumerate(ENTRIES[kind].split()):
                for wrong in WRONG[name]:
                    # What stands behind the first wrong entry is not looked at.
                    for behind in (claim[i + 2:], (None,) * len(claim[i + 2:])):
                        value = (*claim[:i + 1], wrong, *behind)
                        self.assertEqual(claim_breach(value), ("entry", i + 1), value)
                        self.assertEqual(saying_breach(("not", value)), ("entry", i + 1))

    def test_entries_hang_on_rooms(self):
        # The same formula, tally and weight over other rooms.
        self.assertEqual(claim_breach(("empty", 1, 2, OPEN)), ("entry", 3))
        self.assertEqual(claim_breach(("within", 1, 1, OPEN, ("row", (0, 0)))), ("entry", 4))
        self.assertEqual(claim_breach(("alike", 2, TALLY, ())), ("entry", 2))
        self.assertEqual(claim_breach(("alike", 1, (), ((((0, 1, 2),), (), (), ()),))), ("entry", 3))
        # One that is finite as 1 parameter and 1 unknown goes on if both are unknown.
        slanted = ("and", ("row", (0, -1, 1)), ("row", (3, 1, -1)))
        self.assertIsNone(claim_breach(("count", 1, 1, slanted, (5,), 3)))
        self.assertEqual(claim_breach(("count", 0, 2, slanted, (), 3)), ("entry", 3))

    def test_sayings(self):
        for value in (*JUNK, ("is",), ("is", CLAIMS["empty"], 1), ["is", CLAIMS["empty"]], ("Is", CLAIMS["empty"]), ("so", CLAIMS["empty"]), CLAIMS["empty"]):
            self.assertEqual(saying_breach(value), ("form", -1))
        self.assertEqual(saying_breach(("is", ("points",))), ("kind", 0))
        self.assertEqual(saying_breach(("is", ("point",))), ("many", -1))


class Sizes(unittest.TestCase):
    def test_by_hand(self):
        for paper, size in (((), 0), (7, 1), ("word", 1), ((1, ("never", (2, 0, -3))), 5), (((), ((),)), 0), (("", (10 ** 400,)), 2)):
            self.assertEqual(size_of(paper=paper), size)
        self.assertEqual(size_of(deep_nest(200, (1, 2))), 2)
        self.assertEqual(size_of(tuple(range(10000))), 10000)


if __name__ == "__main__":
    unittest.main()
