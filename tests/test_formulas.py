import random
import unittest

from pointtally.errors import NotFormula
from pointtally.formulas import (
    denied, formula_breach, formula_put_in, lettered, lowered_formula, need_formula, plain, sizes,
)
from pointtally.listing import holds_within
from tests.tools import JUNK, at, cube, deep_nest, random_form, random_formula, tried


def naive_breach(value, m, path=()):
    """The path told by going down, written apart from the program."""
    if type(value) is not tuple or value == () or type(value[0]) is not str:
        return path
    word, rest = value[0], value[1:]
    if word not in ("row", "divides", "and", "or", "not", "some"):
        return path
    if word not in ("and", "or") and len(rest) != (2 if word == "divides" else 1):
        return path
    if word == "some" and m == 9:
        return path
    if word == "divides" and (type(rest[0]) is not int or rest[0] not in range(2, 13)):
        return path + (1,)
    if word in ("row", "divides"):
        form = rest[-1]
        good = type(form) is tuple and len(form) == m + 1 and all(type(entry) is int for entry in form)
        return None if good else path + (len(rest),)
    for i, inner in enumerate(rest):
        found = naive_breach(inner, m + (word == "some"), path + (i + 1,))
        if found is not None:
            return found
    return None


def spoiled(rng, value):
    """Return a value with one random place of a nest of tuples made wrong."""
    if type(value) is not tuple or not value or rng.randint(0, 4) == 0:
        return rng.choice((None, True, False, 0, 1, 13, "row", "and", "xor", (), [], (0,), 2.0, ("and",), ("not",)))
    i = rng.randrange(len(value))
    pick = rng.randint(0, 9)
    if pick == 0:
        return list(value)
    if pick == 1:
        return value[:i] + value[i + 1:]
    if pick == 2:
        return value[:i] + value[i:i + 1] + value[i:]
    return value[:i] + (spoiled(rng, value[i]),) + value[i + 1:]


class Breach(unittest.TestCase):
    def check(self, value, m, path):
        self.assertEqual(formula_breach(value, m), path)
        if path is None:
            self.assertIsNone(need_formula(value, m))
        else:
            with self.assertRaises(NotFormula) as caught:
                need_formula(value, m)
            self.assertEqual(caught.exception.path, path)

    def test_formulas(self):
        for m in range(10):
            form = (0,) * (m + 1)
            for value in (("row", form), ("and",), ("or",), ("not", ("or",)), ("divides", 2, form),
                          ("divides", 12, form), ("and", ("row", form), ("or", ("row", form)))):
                self.check(value, m, None)
        self.check(("some", ("row", (0, 1))), 0, None)
        self.check(("row", (10 ** 400,)), 0, None)

    def test_nodes(self):
        for value in (None, (), [], "row", ("row",), ("row", (0,), (0,)), ("divides", 2), ("not",), ("some",),
                      ("divides", 2, (0,), 0), ("not", ("and",), ("and",)), ("some", ("and",), ("and",)), (0,), (True,),
                      ("xor",), (b"and",), (("and",),), ["and"], ("true",), ("Row", (0,)), ("", (0,))):
            with self.subTest(value):
                self.check(value, 0, ())
                self.check(("and", ("or",), value), 0, (2,))
                self.check(("not", ("some", value)), 0, (1, 1))

    def test_forms_and_divisors(self):
        for n in (1, 0, 13, -2, True, None, 2.0, "2", (2,)):
            self.check(("divides", n, (0,)), 0, (1,))
            self.check(("divides", n, None), 0, (1,))
        for form in ((), (0, 0), [0], (True,), (None,), 0, "0", (0.0,)):
            self.check(("row", form), 0, (1,))
            self.check(("divides", 3, form), 0, (2,))
            self.check(("or", ("row", form)), 0, (1, 1))

    def test_some_and_letters(self):
        self.check(("some", ("row", (0, 1))), 1, (1, 1))
        self.check(("some", ("and",)), 8, None)
        self.check(("some", ("some", ("and",))), 8, (1,))
        self.check(("some", ("and",)), 9, ())
        self.check(("some", None), 9, ())
        self.check(("some", ("some", ("some", ("row", (0, 1, 2, 3))))), 0, None)
        nine = ("row", (0,) * 10)
        for _ in range(9):
            nine = ("some", nine)
        self.check(nine, 0, None)
        self.check(nine, 1, (1,) * 8)

    def test_first_of_several(self):
        self.check(("and", ("row", ()), None), 0, (1, 1))
        self.check(("and", ("or", ("not",)), ("row",)), 0, (1, 1))
        self.check(("some", ("and",), None), 0, ())
        self.check(("and", ("and", ("and", ("row", (0,)), ("row", 0)), ()), ()), 0, (1, 1, 2, 1))

    def test_deep(self):
        value = ("and",)
        for _ in range(200):
            value = ("not", value)
        self.check(value, 3, None)
        value = ("row", (0, True))
        for _ in range(200):
            value = ("or", ("and",), value)
        self.check(value, 1, (2,) * 200 + (1,))
        self.check(deep_nest(200), 0, ())
        self.check(("and",) + (("row", (0,)),) * 3000, 0, None)

    def test_junk(self):
        for value in JUNK:
            for m in (0, 1, 9):
                self.check(value, m, naive_breach(value, m))

    def test_random(self):
        rng = random.Random(3)
        wrong = 0
        for _ in range(3000):
            m = rng.choice((0, 1, 2, 3, 8, 9))
            value = random_formula(rng, m, 4, 2)
            self.check(value, m, None)
            value = spoiled(rng, value)
            if rng.randint(0, 3) == 0:
                value = spoiled(rng, value)
            path = naive_breach(value, m)
            wrong += path is not None
            self.check(value, m, path)
        self.assertGreater(wrong, 1000)

    def test_keywords(self):
        self.assertIsNone(formula_breach(value=("and",), m=0))
        self.assertIsNone(need_formula(value=("and",), m=0))


class PutIn(unittest.TestCase):
    def test_by_hand(self):
        formula = ("some", ("and", ("row", (1, 2, 3)), ("not", ("divides", 5, (0, 1, -1)))))
        self.assertEqual(
            formula_put_in(formula, ((7, 1, 0),), 2),
            ("some", ("and", ("row", (15, 2, 0, 3)), ("not", ("divides", 5, (7, 1, 0, -1))))),
        )
        self.assertEqual(formula_put_in(("row", (1, 2)), ((3,),), 0), ("row", (7,)))
        self.assertEqual(formula_put_in(("or",), (), 4), ("or",))
        self.assertEqual(formula_put_in(formula=("row", (1,)), forms=(), n=2), ("row", (1, 0, 0)))

    def test_lettered_by_hand(self):
        formula = ("some", ("row", (1, 2, 3, 4)))
        self.assertEqual(lettered(formula, 2, (2, 0), 4), ("some", ("row", (1, 3, 0, 2, 0, 4))))
        self.assertEqual(lettered(formula=("row", (5,)), m=0, places=(), n=1), ("row", (5, 0)))
        self.assertEqual(lettered(("row", (0,) + tuple(range(1, 10))), 9, tuple(range(8, -1, -1)), 9),
                         ("row", (0,) + tuple(range(9, 0, -1))))

    def test_meaning(self):
        rng = random.Random(4)
        for _ in range(300):
            m, n = rng.randint(0, 3), rng.randint(0, 2)
            formula = random_formula(rng, m, 3)
            forms = tuple(random_form(rng, n, 2) for _ in range(m))
            put = formula_put_in(formula, forms, n)
            self.assertIsNone(formula_breach(put, n))
            for t in cube(n, -2, 2):
                there = tuple(int(at(form, t)) for form in forms)
                self.assertEqual(holds_within(put, t, 2), tried(formula, there, 2))

    def test_lettered_meaning(self):
        rng = random.Random(5)
        for _ in range(200):
            m = rng.randint(0, 3)
            n = rng.randint(m, 4)
            places = tuple(rng.sample(range(n), m))
            formula = random_formula(rng, m, 3)
            told = lettered(formula, m, places, n)
            self.assertIsNone(formula_breach(told, n))
            for _ in range(10):
                t = tuple(rng.randint(-5, 5) for _ in range(n))
                self.assertEqual(holds_within(told, t, 2), tried(formula, tuple(t[i] for i in places), 2))


class Rewriting(unittest.TestCase):
    def test_denied_by_hand(self):
        self.assertEqual(denied(("row", (3, 2, -1))), ("row", (-4, -2, 1)))
        self.assertEqual(denied(("row", (0,))), ("row", (-1,)))
        self.assertEqual(denied(("divides", 3, (1, 2))), ("or", ("divides", 3, (0, 2)), ("divides", 3, (-1, 2))))
        self.assertEqual(denied(("divides", 2, (0,))), ("or", ("divides", 2, (-1,))))
        self.assertEqual(denied(("and",)), ("or",))
        self.assertEqual(denied(("or",)), ("and",))
        self.assertEqual(denied(("or", ("row", (0,)), ("and",))), ("and", ("row", (-1,)), ("or",)))
        self.assertEqual(denied(("not", ("not", ("row", (0,))))), ("row", (-1,)))
        self.assertEqual(denied(("not", ("row", (5,)))), ("row", (5,)))
        self.assertEqual(denied(("some", ("not", ("row", (0, 1))))), ("not", ("some", ("row", (-1, -1)))))
        self.assertEqual(denied(formula=("and",)), ("or",))

    def test_plain_by_hand(self):
        self.assertEqual(plain(("row", (1, 2))), ("row", (1, 2)))
        self.assertEqual(plain(("divides", 4, (1, 2))), ("divides", 4, (1, 2)))
        self.assertEqual(plain(("not", ("and", ("row", (1,)), ("not", ("or",))))), ("or", ("row", (-2,)), ("or",)))
        self.assertEqual(plain(("not", ("some", ("not", ("row", (1, 1)))))), ("not", ("some", ("row", (-2, -1)))))
        self.assertEqual(plain(("not", ("not", ("some", ("and",))))), ("some", ("and",)))
        self.assertEqual(plain(("some", ("not", ("or", ("and",))))), ("some", ("and", ("or",))))
        self.assertEqual(plain(formula=("or",)), ("or",))

    def nots(self, formula):
        if formula[0] == "not":
            self.assertEqual(formula[1][0], "some")
        if formula[0] not in ("row", "divides"):
            for inner in formula[1:]:
                self.nots(inner)

    def test_meaning(self):
        rng = random.Random(6)
        for _ in range(400):
            m = rng.randint(0, 2)
            formula = random_formula(rng, m, 4, 2)
            same, opposite, low = plain(formula), denied(formula), lowered_formula(formula)
            for told in (same, opposite, low):
                self.assertIsNone(formula_breach(told, m))
            self.nots(same)
            self.nots(opposite)
            for t in cube(m, -3, 3):
                held = tried(formula, t, 2)
                self.assertEqual(holds_within(formula, t, 2), held)
                self.assertEqual(holds_within(same, t, 2), held)
                self.assertEqual(holds_within(opposite, t, 2), not held)
                self.assertEqual(holds_within(low, t, 2), held)

    def test_lowered_by_hand(self):
        self.assertEqual(lowered_formula(("row", (7, 4, -6))), ("row", (3, 2, -3)))
        self.assertEqual(lowered_formula(("row", (0, 0))), ("and",))
        self.assertEqual(lowered_formula(("row", (0,))), ("and",))
        self.assertEqual(lowered_formula(("row", (-1, 0, 0))), ("or",))
        self.assertEqual(lowered_formula(("divides", 4, (-1, 7, 8))), ("divides", 4, (3, 3, 0)))
        self.assertEqual(lowered_formula(("divides", 4, (8, 4, -8))), ("and",))
        self.assertEqual(lowered_formula(("divides", 4, (-7, 4))), ("or",))
        self.assertEqual(lowered_formula(("divides", 12, (24,))), ("and",))
        self.assertEqual(lowered_formula(("not", ("some", ("and", ("row", (3, 2)))))),
                         ("not", ("some", ("and", ("row", (1, 1))))))
        self.assertEqual(lowered_formula(formula=("or", ("or",))), ("or", ("or",)))

    def test_sizes(self):
        self.assertEqual(sizes(("and",)), (0, 0, 0))
        self.assertEqual(sizes(("row", (0,))), (1, 0, 0))
        self.assertEqual(sizes(("divides", 12, (1, -3))), (1, 0, 3))
        self.assertEqual(sizes(("some", ("or", ("some", ("row", (0, 1, -7))), ("divides", 2, (-5, 1))))), (2, 2, 7))
        self.assertEqual(sizes(("not", ("and", ("some", ("and",)), ("some", ("and",))))), (0, 1, 0))
        self.assertEqual(sizes(formula=("row", (10 ** 60, -10 ** 70))), (1, 0, 10 ** 70))

    def test_deep(self):
        value = ("row", (0, 1))
        for _ in range(199):
            value = ("not", value)
        self.assertEqual(plain(value), ("row", (-1, -1)))
        self.assertEqual(denied(value), ("row", (0, 1)))
        deep = ("row", (1, 2))
        for _ in range(199):
            deep = ("and", deep)
        self.assertEqual(sizes(deep), (1, 0, 2))
        self.assertEqual(lowered_formula(deep), formula_put_in(lowered_formula(deep), ((0, 1),), 1))
        self.assertEqual(plain(denied(denied(deep))), deep)
        self.assertTrue(holds_within(deep, (0,), 0))
