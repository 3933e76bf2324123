import random
import unittest

from pointtally.errors import NotNest
from pointtally.nests import check_nest, nest_breach
from tests.tools import JUNK, deep_nest, replaced_everywhere
from tests.walks import random_nest

TOUCH = ("read", "a", ((0, 0, 1),))
DO = ("do", (TOUCH,))
BARE = ("do", ())
LOOP = ("loop", ((0, 0),), ((-1, 1),), 1, (DO,))
NEST = ("nest", 1, (LOOP,))
TRUE = ("and",)


def nest(*parts, k=1):
    return ("nest", k, parts)


def loop(*body, lows=((0, 0),), highs=((-1, 1),), step=1):
    return ("loop", lows, highs, step, body)


def within(body, many, k=1):
    """Return a body within so many loops around it."""
    for i in range(many - 1, -1, -1):
        body = (("loop", ((0,) * (k + i + 1),), ((5,) + (0,) * (k + i),), 1, body),)
    return body


class Breach(unittest.TestCase):
    def same(self, value, told):
        self.assertEqual(nest_breach(value), told, value)
        if told is None:
            self.assertIs(check_nest(value), value)
        else:
            with self.assertRaises(NotNest) as caught:
                check_nest(value)
            self.assertEqual((caught.exception.rule, caught.exception.path), told)

    def test_sound(self):
        rng = random.Random(731)
        for value in (NEST, nest(BARE), nest(BARE, k=0), nest(BARE, BARE, BARE, BARE, k=2), ("nest", 1, within((BARE,), 3)),
                      nest(loop(("if", TRUE, (DO, LOOP2)), DO))):
            self.same(value, None)
        for _ in range(200):
            self.same(random_nest(rng, rng.randint(0, 2), 3, 4), None)

    def test_nest(self):
        for value in (*JUNK, ("nest",), ("nest", 1), ("nest", 1, (LOOP,), ()), ["nest", 1, (LOOP,)], ("nests", 1, (LOOP,)), (None, 1, (LOOP,)),
                      ("nest", 3, (LOOP,)), ("nest", -1, (LOOP,)), ("nest", True, (LOOP,)), ("nest", "1", (LOOP,)), ("nest", None, None)):
            self.same(value, ("nest", ()))

    def test_body(self):
        for body in ((), [LOOP], None, (BARE,) * 5, "body", 7, {}):
            self.same(("nest", 1, body), ("body", ()))
            self.same(nest(BARE, ("if", TRUE, body)), ("body", (1,)))
            self.same(nest(loop(BARE, LOOP2, ("loop", ((0, 0, 0),), ((1, 0, 0),), 6, body))), ("body", (0, 2)))
        self.same(nest(BARE, BARE, BARE, BARE), None)

    def test_part(self):
        wrong = (*JUNK, ("do",), ("do", (), ()), ["do", ()], ("do", [TOUCH]), ("do", TOUCH), ("do", (TOUCH,) * 7), ("if", TRUE), ("if", TRUE, (DO,), ()),
                 ("loop", ((0, 0),), ((0, 1),), 1), ("loop", (), ((0, 1),), 1, (DO,)), ("loop", ((0, 0),), (), 1, (DO,)), ("for", TRUE, (DO,)),
                 ("loop", ((0, 0),) * 3, ((0, 1),), 1, (DO,)), ("loop", ((0, 0),), ((0, 1),) * 3, 1, (DO,)), ("loop", [(0, 0)], ((0, 1),), 1, (DO,)),
                 ("loop", ((0, 0),), ((0, 1),), 0, (DO,)), ("loop", ((0, 0),), ((0, 1),), 7, (DO,)), ("loop", ((0, 0),), ((0, 1),), True, (DO,)),
                 ("loop", ((0, 0),), ((0, 1),), "1", (DO,)), ("do", (("reads", "a", ((0, 0),)),)), ("do", (("any", "a", ((0, 0),)),)), ("do", ((None, "a", ((0, 0),)),)),
                 ("do", (("read", "", ((0, 0),)),)), ("do", (("read", "abcdefghijklm", ((0, 0),)),)), ("do", (("read", "A", ((0, 0),)),)), ("do", (("read", "a1", ((0, 0),)),)),
                 ("do", (("read", b"a", ((0, 0),)),)), ("do", (("read", "a", ()),)), ("do", (("read", "a", ((0, 0),) * 3),)), ("do", (("read", "a", [(0, 0)]),)),
                 ("do", (("read", "a"),)), ("do", (["read", "a", ((0, 0),)],)), ("do", (("read", "a", ((0, 0),), 1),)), ("do", (("read", "\xe4", ((0, 0),)),)))
        for part in wrong:
            self.same(nest(part), ("part", (0,)))
            self.same(nest(BARE, loop(BARE, BARE, part)), ("part", (1, 2)))
        fine = (("do", (("read", "abcdefghijkl", ((0, 0),)),)), ("do", (("write", "z", ((0, 0), (1, 1))),) * 6), loop(BARE, step=6),
                loop(BARE, lows=((0, 0),) * 2, highs=((5, 1),) * 2))
        for part in fine:
            self.same(nest(part), None)

    def test_form(self):
        edge, beyond = (10 ** 6, 20, -3), ((10 ** 6 + 1, 0, 0), (-10 ** 6 - 1, 0, 0), (0, 21, 0), (0, -21, 0), (0, 0, 4), (0, 0, -4), (0, 0), (0, 0, 0, 0), 0, None, (0, 0, True), [0, 0, 0])
        for form in (edge, (-10 ** 6, -20, 3), *beyond):
            told = None if form in (edge, (-10 ** 6, -20, 3)) else ("form", (0, 1))
            self.same(nest(loop(BARE, ("do", (TOUCH, ("write", "b", ((0, 0, 0), form)))))), told)
            self.same(nest(loop(BARE, ("loop", ((0, 0, 0), form), ((0, 0, 0),), 1, (BARE,)))), told)
            self.same(nest(loop(BARE, ("loop", ((0, 0, 0),), (form,), 1, (BARE,)))), told)
            self.same(nest(loop(BARE, ("if", ("and", ("or",), ("not", ("row", form))), (BARE,)))), told)
            self.same(nest(loop(BARE, ("if", ("divides", 12, form), (BARE,)))), told)
        for formula in (("some", ("and",)), ("not", ("some", ("row", (0, 0, 0, 0)))), ("divides", 13, (0, 0, 0)), ("divides", 1, (0, 0, 0)), None, (), ("row", (0, 0))):
            self.same(nest(loop(BARE, ("if", formula, (BARE,)))), ("form", (0, 1)))
        # A counter is ahead of its own body alone, and not of its own bounds.
        self.same(nest(("loop", ((0, 0, 0),), ((0, 0),), 1, (BARE,))), ("form", (0,)))
        self.same(nest(loop(BARE), ("do", (TOUCH,))), ("form", (1,)))

    def test_deep(self):
        self.same(("nest", 1, within((BARE,), 3)), None)
        self.same(("nest", 1, within((BARE,), 4)), ("deep", (0, 0, 0, 0)))
        self.same(("nest", 0, within((BARE, ("if", ("and",), within((BARE,), 1, 3))), 3, 0)), ("deep", (0, 0, 0, 1, 0)))
        # What is deep is told ahead of what stands in it, and behind its own forms.
        self.same(("nest", 1, within(((),), 4)), ("deep", (0, 0, 0, 0)))
        self.same(("nest", 1, within((("loop", ((0,),), ((0,) * 5,), 1, (BARE,)),), 3)), ("form", (0, 0, 0, 0)))

    def test_many(self):
        self.same(nest(loop(BARE, BARE, BARE), BARE, BARE, BARE), None)
        self.same(nest(loop(BARE, BARE, BARE), BARE, BARE, ("if", TRUE, (BARE, BARE))), ("many", (3, 1)))
        self.same(nest(loop(BARE, BARE, BARE, BARE), ("if", TRUE, (BARE, BARE, BARE)), ()), ("many", (1, 2)))
        # Of a seventh statement the forms come first, and the array comes last.
        self.same(nest(loop(BARE, BARE, BARE, BARE), ("if", TRUE, (BARE, BARE, ("do", (("read", "a", ((0,),)),))))), ("form", (1, 2)))
        two = ("do", (("read", "a", ((0, 0),)), ("read", "a", ((0, 0), (0, 0)))))
        self.same(nest(loop(BARE, BARE, BARE, BARE), ("if", TRUE, (BARE, BARE, two))), ("many", (1, 2)))
        self.same(nest(loop(BARE, BARE, BARE, BARE), ("if", TRUE, (BARE, two))), ("array", (1, 1)))

    def test_array(self):
        one, two = ("read", "a", ((0, 0),)), ("write", "a", ((0, 0), (0, 1)))
        self.same(nest(("do", (one, one)), ("do", (("read", "b", ((0, 0), (1, 1))), one))), None)
        self.same(nest(("do", (one,)), loop(BARE, ("do", (("write", "a", ((0, 0, 1), (0, 1, 0))),)))), ("array", (1, 1)))
        self.same(nest(("do", (two, one)), 5), ("array", (0,)))

    def test_first_place(self):
        # In the text's sequence, each place ahead of what stands in it.
        self.same(nest(("if", TRUE, (BARE, 7)), 8), ("part", (0, 1)))
        self.same(nest(("if", 9, (BARE, 7)), 8), ("form", (0,)))
        self.same(nest(loop(7, lows=((0,),)), 8), ("form", (0,)))
        self.same(nest(BARE, BARE, BARE, BARE, 8), ("body", ()))

    def test_bent(self):
        # Values bent at one place: whatever is told, its place stands in the value, and unbent ones are told sound.
        whole = ("nest", 1, (("loop", ((0, 0),), ((-1, 1), (5, 0)), 2, (("if", ("or", ("row", (0, 1, -1)), ("divides", 3, (0, 0, 1))), (DO,)), BARE)), BARE))
        self.same(whole, None)
        rules = set()
        for value in replaced_everywhere(whole, (deep_nest(200), 10 ** 400)):
            told = nest_breach(value)
            if told is not None:
                rule, path = told
                rules.add(rule)
                at = value
                for step in path:
                    # The body of a nest, a loop and a condition stands last in it.
                    at = at[-1][step]
        self.assertLessEqual({"nest", "body", "part", "form"}, rules)

    def test_wide_and_deep_values(self):
        self.same(deep_nest(200), ("nest", ()))
        self.same(("nest", 1, deep_nest(190)), ("part", (0,)))
        deep = (BARE,)
        for _ in range(80):
            deep = (("if", TRUE, deep),)
        self.same(("nest", 1, deep), None)
        condition = TRUE
        for _ in range(150):
            condition = ("not", condition)
        self.same(nest(("if", condition, (BARE,))), None)
        self.same(nest(("if", ("and", *[TRUE] * 9000), (BARE,))), None)


LOOP2 = ("loop", ((0, 0, 0),), ((-1, 1, 1),), 1, (BARE,))

if __name__ == "__main__":
    unittest.main()
