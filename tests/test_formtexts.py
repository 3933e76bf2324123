import random
import unittest

from pointtally.errors import NotText
from pointtally.formtexts import formula_text, read_formula, read_room, room_text
from pointtally.formulas import formula_breach
from tests.prefixes import failing_place, tokens
from tests.tools import random_formula

POOL = ("i", "j", "n", "k1", "k2", "x9", "alls", "an", "abcdefghijkl", "z0z0z0z0z0z0", "orr", "w", "t")


class FormulaText(unittest.TestCase):
    def test_forms(self):
        for form, text in (
            ((3, 2, -1), "2 i - j + 3"), ((0, 0, 0), "0"), ((-5, 0, 0), "-5"), ((0, -1, 0), "-i"), ((0, 0, 1), "j"),
            ((-1, -2, -3), "-2 i - 3 j - 1"), ((1, 1, 1), "i + j + 1"), ((0, 0, -7), "-7 j"), ((7, -1, 0), "-i + 7"),
        ):
            self.assertEqual(formula_text(("row", form), ("i", "j")), text + " >= 0")
            self.assertEqual(formula_text(("divides", 12, form), ("i", "j")), "12 divides (" + text + ")")

    def test_nodes(self):
        row = ("row", (0, 1))
        for formula, text in (
            (("and",), "all()"), (("or",), "any()"), (("and", row), "all(i >= 0)"),
            (("or", row, ("and",)), "any(i >= 0, all())"), (("not", row), "not(i >= 0)"),
            (("not", ("not", ("or",))), "not(not(any()))"),
            (("some", ("row", (0, 1, -2))), "some k1 (i - 2 k1 >= 0)"),
            (("some", ("some", ("row", (0, 1, 2, 3)))), "some k1 (some k2 (i + 2 k1 + 3 k2 >= 0))"),
            (("and", ("some", ("and",)), ("some", ("and",))), "all(some k1 (all()), some k1 (all()))"),
        ):
            self.assertEqual(formula_text(formula, ("i",)), text)

    def test_new_letters(self):
        self.assertEqual(formula_text(("some", ("some", ("and",))), ("k1", "k3")), "some k2 (some k4 (all()))")
        self.assertEqual(formula_text(("some", ("row", (1, 1))), ()), "some k1 (k1 + 1 >= 0)")
        self.assertEqual(formula_text(formula=("some", ("and",)), names=("k2",)), "some k1 (all())")

    def test_many_digits(self):
        for many in (1, 39, 40, 41, 59, 60, 61, 120, 400):
            for entry in (10 ** many, 10 ** many - 1, int("1" + "0" * (many - 1) + "7")):
                self.assertEqual(formula_text(("row", (-entry, entry)), ("i",)), f"{entry} i - {entry} >= 0")
        self.assertEqual(formula_text(("row", (10 ** 9000,)), ()), "1" + "0" * 9000 + " >= 0")


class ReadFormula(unittest.TestCase):
    def both(self, text, names, formula):
        self.assertEqual(read_formula(text, names), formula)
        self.assertIsNone(failing_place("F", text, names))

    def test_comparisons(self):
        for text, formula in (
            ("i <= j", ("row", (0, -1, 1))), ("i >= j", ("row", (0, 1, -1))), ("i < j", ("row", (-1, -1, 1))),
            ("i > j", ("row", (-1, 1, -1))), ("i = j", ("and", ("row", (0, -1, 1)), ("row", (0, 1, -1)))),
            ("2 i - 3*j + 4 >= i - 1", ("row", (5, 1, -3))), ("-i + i + i<=0", ("row", (0, -1, 0))),
            ("+ 3 > -  2 j", ("row", (2, 0, 2))), ("1 = 2", ("and", ("row", (1, 0, 0)), ("row", (-1, 0, 0)))),
            ("2i+3j>=007", ("row", (-7, 2, 3))), ("0 i >= 0", ("row", (0, 0, 0))),
        ):
            self.both(text, ("i", "j"), formula)

    def test_words(self):
        row, other = ("row", (0, 1, 0)), ("row", (0, 0, 1))
        i, j = "i >= 0", "j >= 0"
        for text, formula in (
            ("true", ("and",)), ("false", ("or",)), ("all()", ("and",)), ("any( )", ("or",)), ("(true)", ("and",)),
            (f"{i} and {j}", ("and", row, other)), (f"{i} or {j} or {i}", ("or", row, other, row)),
            (f"{i} and {j} or {i}", ("or", ("and", row, other), row)), (f"({i}) and ({j})", ("and", row, other)),
            (f"{i} and ({j} or {i})", ("and", row, ("or", other, row))), (f"not {i} and {j}", ("and", ("not", row), other)),
            (f"not ({i} and {j})", ("not", ("and", row, other))), (f"not not {i}", ("not", ("not", row))),
            (f"all({i})", ("and", row)), (f"any({i} or {j}, {j})", ("or", ("or", row, other), other)),
            (f"({i} and {j}) and {j}", ("and", ("and", row, other), other)), (f"(({i}))", row),
            ("3 divides (i - 2 j)", ("divides", 3, (0, 1, -2))), ("12 divides(4)", ("divides", 12, (4, 0, 0))),
            ("002 divides (+i)", ("divides", 2, (0, 1, 0))),
            ("some k (i = 2 k)", ("some", ("and", ("row", (0, -1, 0, 2)), ("row", (0, 1, 0, -2))))),
            ("some k(k>=0)and j>=0", ("and", ("some", ("row", (0, 0, 0, 1))), other)),
            ("some k (true) or some k (some m (m > k))", ("or", ("some", ("and",)), ("some", ("some", ("row", (-1, 0, 0, -1, 1)))))),
        ):
            with self.subTest(text):
                self.both(text, ("i", "j"), formula)

    def test_long_numbers(self):
        number = "9" * 40
        self.both(f"{number} i >= {number}", ("i",), ("row", (-int(number), int(number))))
        self.both("0" * 39 + "2 divides (i)", ("i",), ("divides", 2, (0, 1)))
        self.both(f"{number} + {number} >= 0", (), ("row", (2 * int(number),)))
        self.fails("i >= " + "1" * 41, ("i",), 5)
        self.fails("0" * 41 + " i >= 0", ("i",), 0)
        self.fails("0" * 40 + "2 divides (i)", ("i",), 0)
        self.fails("1" * 5000 + " >= 0", (), 0)
        self.fails("2 * " + "1" * 41, ("i",), 4)

    def fails(self, text, names, place):
        with self.assertRaises(NotText) as caught:
            read_formula(text, names)
        self.assertEqual(caught.exception.place, place, text)
        self.assertEqual(failing_place("F", text, names), place, text)

    def test_places(self):
        nine = tuple("abcdefghi")
        for text, names, place in (
            ("", ("i",), 0), ("   ", ("i",), 3), ("i", ("i",), 1), ("i ", ("i",), 2), ("i >=", ("i",), 4),
            ("i >= 0 )", ("i",), 7), ("(i >= 0", ("i",), 7), ("i >= 0,", ("i",), 6), ("i => 0", ("i",), 3),
            ("i == 0", ("i",), 3), ("j >= 0", ("i",), 0), ("i >= j", ("i",), 5), ("I >= 0", ("i",), 0), ("iX >= 0", ("i",), 1),
            ("i\t>= 0", ("i",), 1), ("i\n", ("i",), 1), ("13 divides (i)", ("i",), 3), ("1 divides (i)", ("i",), 2),
            ("+2 divides (i)", ("i",), 3), ("i + 2 divides (i)", ("i",), 6), ("2 divides i", ("i",), 10),
            ("2 divides ()", ("i",), 11), ("2 divides (i", ("i",), 12), ("2 i divides (i)", ("i",), 4), ("divides", ("i",), 0),
            ("2 * 3 >= 0", ("i",), 4), ("2 * 3 >= 0", (), 2), ("2 i j >= 0", ("i", "j"), 4), ("i 2 >= 0", ("i",), 2),
            ("i * 2 >= 0", ("i",), 2), ("i - - 2 >= 0", ("i",), 4), ("i >= 0 and", ("i",), 10), ("i >= 0 and or", ("i",), 11),
            ("and", (), 0), ("true true", (), 5), ("true >= 0", (), 5), ("not", (), 3), ("all(", (), 4), ("all true", (), 4),
            ("all(true,)", (), 9), ("all(,true)", (), 4), ("any(true true)", (), 9), ("()", (), 1),
            ("some", (), 4), ("some (true)", (), 5), ("some i (true)", ("i",), 5), ("some all (true)", (), 5),
            ("some k true", (), 7), ("some k (true", (), 12), ("some k (true) k >= 0", (), 14), ("some abcdefghijklm (true)", (), 5),
            ("some abcdefghijkl (true)", nine, 0), ("some k (some k (true))", (), 13), ("some 2 (true)", (), 5),
            ("some k (true) or k >= 0", (), 17), ("i < > 0", ("i",), 4), ("i <= >= 0", ("i",), 5), ("i / 2 >= 0", ("i",), 2),
            ("i >= \u00bd", ("i",), 5), ("i >= \u0663", ("i",), 5), ("\u00e9 >= 0", ("i",), 0), ("for i where true", (), 0),
        ):
            with self.subTest(text):
                self.fails(text, names, place)

    def test_eight_and_nine_names(self):
        eight = tuple("abcdefgh")
        self.both("some i (i >= a)", eight, ("some", ("row", (0, -1, 0, 0, 0, 0, 0, 0, 0, 1))))
        self.fails("some i (some j (true))", eight, 8)
        self.fails("true and some i (true)", tuple("abcdefghj"), 9)

    def test_keywords_and_depth(self):
        self.assertEqual(read_formula(text="true", names=()), ("and",))
        self.both("(" * 50 + "true" + ")" * 50, (), ("and",))
        self.both("not " * 50 + "true", (), read_formula("not(" * 50 + "true" + ")" * 50, ()))
        self.assertEqual(read_formula("all(" * 50 + "true or all(" + ")" * 51, ())[0], "and")

    def test_long_texts(self):
        text = " + ".join(["i"] * 24000) + " >= 0"
        self.assertEqual(read_formula(text, ("i",)), ("row", (0, 24000)))
        text = " and ".join(["i >= 0"] * 9000)
        self.assertEqual(len(read_formula(text, ("i",))), 9001)


class ThereAndBack(unittest.TestCase):
    def test_formulas(self):
        rng = random.Random(7)
        for _ in range(600):
            m = rng.randint(0, 9)
            formula = random_formula(rng, m, 5, 2, rng.choice((1, 4, 10 ** 40 - 1)))
            names = tuple(rng.sample(POOL, m))
            text = formula_text(formula, names)
            self.assertEqual(read_formula(text, names), formula)
            self.assertEqual(read_formula(text.replace(" ", "  ").replace("(", "( "), names), formula)

    def test_rooms(self):
        rng = random.Random(8)
        for _ in range(400):
            k, d = rng.randint(0, 3), rng.randint(0, 6)
            formula = random_formula(rng, k + d, 4, 2)
            names = tuple(rng.sample(POOL, k + d))
            self.assertEqual(read_room(room_text(k, d, names, formula)), (k, d, names, formula))

    def spoiled_texts(self, rng, text):
        """Yield a text with one token cut off, exchanged, doubled or left out."""
        found = [word for word, _ in tokens(text)][:-1]
        pool = sorted(set(found)) + ["(", ")", ",", "+", "*", "some", "k1", "2", "13", "divides", "and", "<", "?", "A", "for",
                                     "count", "where", "true", "all", "9" * 41]
        for _ in range(6):
            i = rng.randrange(len(found))
            yield " ".join(found[:i])
            yield " ".join(found[:i] + [rng.choice(pool)] + found[i + 1:])
            yield " ".join(found[:i + 1] + found[i:])
            yield " ".join(found[:i] + found[i + 1:])
            yield " ".join(found[:i] + [rng.choice(pool)] + found[i:]) + " "

    def compare(self, start, text, names):
        """Hold what is read, or where reading ends, against trying all derivations."""
        place = failing_place(start, text, names)
        try:
            told = read_formula(text, names) if start == "F" else read_room(text)
            self.assertIsNone(place, text)
            formula, many = (told, len(names)) if start == "F" else (told[3], len(told[2]))
            self.assertIsNone(formula_breach(formula, many))
        except NotText as e:
            self.assertEqual(e.place, place, text)
        return place is None

    def test_spoiled_formulas(self):
        rng = random.Random(9)
        told = []
        for _ in range(150):
            m = rng.choice((0, 1, 2, 8, 9))
            names = tuple(rng.sample(POOL, m))
            text = formula_text(random_formula(rng, m, 3, 2), names)
            for wrong in self.spoiled_texts(rng, text):
                told.append(self.compare("F", wrong, names))
        self.assertGreater(told.count(False), 2000)
        self.assertGreater(told.count(True), 200)

    def test_spoiled_rooms(self):
        rng = random.Random(10)
        told = []
        for _ in range(100):
            k, d = rng.randint(0, 3), rng.randint(0, 6)
            names = tuple(rng.sample(POOL, k + d))
            text = room_text(k, d, names, random_formula(rng, k + d, 2, 1))
            for wrong in self.spoiled_texts(rng, text):
                told.append(self.compare("ROOM", wrong, ()))
        self.assertGreater(told.count(False), 1000)


class Rooms(unittest.TestCase):
    def test_texts(self):
        row = ("row", (0, 1, 1))
        for k, d, text in ((2, 0, "for i, j where i + j >= 0"), (1, 1, "for i count j where i + j >= 0"),
                           (0, 2, "count i, j where i + j >= 0")):
            self.assertEqual(room_text(k, d, ("i", "j"), row), text)
            self.assertEqual(read_room(text), (k, d, ("i", "j"), row))
        self.assertEqual(room_text(0, 0, (), ("and",)), "where all()")
        self.assertEqual(read_room("where true"), (0, 0, (), ("and",)))
        self.assertEqual(room_text(k=0, d=0, names=(), formula=("or",)), "where any()")
        self.assertEqual(read_room(text="where false"), (0, 0, (), ("or",)))
        self.assertEqual(read_room("for a,b,c count d,e,f,g,h,i where true"), (3, 6, tuple("abcdefghi"), ("and",)))

    def test_places(self):
        for text, place in (
            ("", 0), ("for", 3), ("for where true", 4), ("for i, where true", 7), ("for i, i where true", 7),
            ("for i j where true", 6), ("for a, b, c, d where true", 11), ("count a, b, c, d, e, f, g where true", 22),
            ("for i count i where true", 12), ("count i for j where true", 8), ("for all where true", 4), ("true", 0),
            ("where", 5), ("where i >= 0", 6), ("for i where i >= 0 j", 19), ("for abcdefghijklm where true", 4),
            ("for 2 where true", 4), ("for i where where", 12), ("for a,b,c count d,e,f,g,h,i where some k (true)", 34),
            ("count", 5), ("count i", 7), ("for i,", 6),
        ):
            with self.subTest(text):
                with self.assertRaises(NotText) as caught:
                    read_room(text)
                self.assertEqual(caught.exception.place, place)
                self.assertEqual(failing_place("ROOM", text, ()), place)
