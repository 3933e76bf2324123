import random
import unittest

from pointtally.books import book_breach, hangs_on, need_book, written_out
from pointtally.errors import NotBook, NotNamed
from pointtally.formulas import formula_breach
from tests.oracles import value_of
from tests.tools import JUNK, deep_nest, random_form, replaced_everywhere, tried

TRUE = ("and",)
BOX = ("and", ("row", (0, 0, 1)), ("row", (0, 1, -1)))
BOOK = (
    ("box", (1, 1, BOX)),
    ("even", (0, 1, ("some", ("and", ("row", (0, 1, -2)), ("row", (0, -1, 2)))))),
    ("pair", (1, 2, ("and", ("named", "box", ((0, 1, 0, 0), (0, 0, 1, 0))), ("named", "box", ((0, 1, 0, 0), (0, 0, 1, 1))), ("named", "even", ((3, 0, 0, 1),))))),
)


def use(name, *forms):
    return ("named", name, forms)


def written(book, name):
    """Return the room of a name written out, node by node, by values at points."""
    rooms = dict(book)

    def led(form, forms, n):
        at = [value_of(own, (0,) * n) for own in forms]
        told = [value_of(form, at)]
        for i in range(n):
            unit = tuple(int(j == i) for j in range(n))
            told.append(value_of(form, [value_of(own, unit) for own in forms]) - told[0])
        return tuple(told)

    def put(formula, forms, n):
        word = formula[0]
        if word == "row":
            return (word, led(formula[1], forms, n))
        if word == "divides":
            return (word, formula[1], led(formula[2], forms, n))
        if word == "some":
            last = tuple(int(i == n + 1) for i in range(n + 2))
            return (word, put(formula[1], [(*form, 0) for form in forms] + [last], n + 1))
        if word == "named":
            k, d, inner = rooms[formula[1]]
            return put(inner, [led(form, forms, n) for form in formula[2]], n)
        return (word, *[put(part, forms, n) for part in formula[1:]])

    k, d, formula = rooms[name]
    units = [tuple(int(i == j + 1) for i in range(k + d + 1)) for j in range(k + d)]
    return (k, d, put(formula, units, k + d))


class Breach(unittest.TestCase):
    def same(self, value, told):
        self.assertEqual(book_breach(value=value), told)
        if told is None:
            self.assertIs(need_book(value=value), value)
        else:
            with self.assertRaises(NotBook) as caught:
                need_book(value)
            self.assertEqual((caught.exception.rule, caught.exception.what), told)

    def test_sound(self):
        self.same((), None)
        self.same(BOOK, None)
        names = sorted("abcdefghij"[i // 10] + "abcdefghij"[i % 10] for i in range(100))
        whole = tuple((name, (3, 6, TRUE)) for name in names)
        self.same(whole, None)
        self.same((*whole, ("zz", (0, 0, TRUE))), ("form", -1))
        self.same((("a" * 20, (0, 0, ("or",))),), None)

    def test_form(self):
        for value in (*[value for value in JUNK if not isinstance(value, tuple)], list(BOOK), {}):
            self.same(value, ("form", -1))
        for entry in (*JUNK, ("b",), ("b", (0, 0, TRUE), 1), ["b", (0, 0, TRUE)], ("", (0, 0, TRUE)), ("a" * 21, (0, 0, TRUE)), ("B", (0, 0, TRUE)), ("b1", (0, 0, TRUE)),
                      ("b", None), ("b", (0, 0)), ("b", [0, 0, TRUE]), ("b", (4, 0, TRUE)), ("b", (-1, 0, TRUE)), ("b", (0, 7, TRUE)), ("b", (True, 0, TRUE)),
                      ("b", (0, 0, None)), ("b", (0, 0, ("row", (0, 0)))), ("b", (1, 1, ("row", (0, 0)))), ("b", (0, 0, ("not", ("named", "a")))),
                      ("b", (0, 0, ("named", "", ()))), ("b", (0, 0, ("named", "A", ()))), ("b", (0, 0, ("named", "a", []))), ("b", (0, 1, ("named", "a", ((0,),)))),
                      ("b", (0, 0, ("named", "a", ((0, 0),)))), ("b", (0, 1, ("some", ("named", "a", ((0, 0),))))), ("b", (0, 0, ("and", ("named", "a", (), ())))),
                      ("b", (3, 6, ("some", TRUE))), ("b", (0, 0, deep_nest(200))), (b"b", (0, 0, TRUE))):
            self.same((("a", (0, 0, TRUE)), entry, ("c", (0, 0, ("named", "x", ())))), ("form", 1))
            # The least index is told, also where another pair stands behind that breaks other rules.
            self.same((("a", (0, 0, ("named", "x", ()))), entry, None), ("form", 1))
        for names in (("a", "a"), ("b", "a"), ("ab", "aa"), ("a", "")):
            self.same(tuple((name, (0, 0, TRUE)) for name in names), ("form", 1))

    def test_unnamed(self):
        self.same((("a", (0, 0, use("zz"))), ("b", (0, 0, ("not", ("and", use("y"), use("a", (1,))))))), ("unnamed", "y"))
        self.same((("b", (0, 0, use("a"))),), ("unnamed", "a"))
        # Ahead of what does not fit, of rings and of great ones.
        self.same((("a", (0, 0, ("and", use("a"), use("b", (0,)), use("c")))), ("b", (0, 0, TRUE))), ("unnamed", "c"))

    def test_fit(self):
        self.same((("a", (1, 1, TRUE)), ("b", (0, 1, use("a", (0, 1)))), ("c", (0, 0, use("a")))), ("fit", "b"))
        self.same((("a", (0, 0, use("c", (0,)))), ("b", (0, 1, use("c", (0, 1), (1, 1)))), ("c", (0, 1, use("c")))), ("fit", "b"))
        self.same((("a", (0, 0, use("b", (0,), (5,)))), ("b", (1, 1, TRUE))), None)

    def test_ring(self):
        self.same((("a", (0, 0, use("a"))),), ("ring", "a"))
        self.same((("a", (0, 0, use("b"))), ("b", (0, 0, use("c"))), ("c", (0, 0, ("or", TRUE, use("b"))))), ("ring", "b"))
        self.same((("a", (0, 0, use("b"))), ("b", (0, 0, use("c"))), ("c", (0, 0, use("a")))), ("ring", "a"))
        # Twice used is no ring.
        self.same((("a", (0, 0, ("and", use("b"), use("c")))), ("b", (0, 0, use("d"))), ("c", (0, 0, use("d"))), ("d", (0, 0, TRUE))), None)
        names = [f"{a}{b}" for a in "abcdefghij" for b in "abcdefghij"]
        line = [(name, (0, 0, use(after))) for name, after in zip(names, names[1:])]
        self.same((*line, (names[-1], (0, 0, ("row", (1,))))), None)
        self.same((*line, (names[-1], (0, 0, use(names[40])))), ("ring", names[40]))

    def test_great_nodes(self):
        # Two hundred nodes are let: each use stands for a formula, and is none itself.
        hundred = ("and", *[TRUE] * 99)
        for more, told in ((99, None), (100, ("great", "b"))):
            self.same((("a", (0, 0, hundred)), ("b", (0, 0, ("or", use("a"), *[TRUE] * more)))), told)
        self.same((("a", (0, 0, ("and", *[TRUE] * 199))),), None)
        self.same((("a", (0, 0, ("and", *[TRUE] * 200))),), ("great", "a"))
        self.same((("a", (0, 0, use("b"))), ("b", (0, 0, ("and", *[TRUE] * 200)))), ("great", "a"))
        deep = TRUE
        for _ in range(199):
            deep = ("not", deep)
        self.same((("a", (0, 0, ("some", ("not", use("b"))))), ("b", (0, 0, deep[1][1]))), None)
        # Names that are used twice by one another grow beyond all numbers.
        names = [f"{a}{b}" for a in "abcdefghij" for b in "abcdefghij"]
        line = [(name, (0, 0, ("and", use(after), use(after)))) for name, after in zip(names, names[1:])]
        self.same((*line, (names[-1], (0, 0, TRUE))), ("great", names[0]))
        self.same((*line[-6:], (names[-1], (0, 0, TRUE))), None)

    def test_great_rows(self):
        six = ("and", *[("row", (0,)), ("divides", 5, (1,))] * 3)
        self.same((("a", (0, 0, six)), ("b", (0, 0, ("and", use("a"), use("a"))))), None)
        self.same((("a", (0, 0, six)), ("b", (0, 0, ("and", use("a"), ("row", (1,)), use("a"))))), ("great", "b"))
        self.same((("a", (0, 0, ("and", *[("row", (0,))] * 13))),), ("great", "a"))

    def test_great_somes(self):
        one = ("some", ("row", (0, 1)))
        self.same((("a", (0, 0, one)), ("b", (0, 0, ("and", use("a"), use("a"), ("not", use("a")))))), None)
        self.same((("a", (0, 0, one)), ("b", (0, 0, ("and", use("a"), use("a"), ("not", use("a")), one)))), ("great", "b"))

    def test_great_letters(self):
        # Nine letters in force: six of the room, two of its own and one of the other room.
        one = ("some", ("row", (0, 1)))
        for d, told in ((6, None), (7, ("form", 1))):
            inner = ("some", ("some", use("a")))
            self.same((("a", (0, 0, one)), ("b", (0, d, inner))), told)
        for k, told in ((0, None), (1, ("great", "b"))):
            self.same((("a", (0, 0, one)), ("b", (k, 6, ("some", ("some", use("a")))))), told)
        self.same((("a", (0, 0, ("some", TRUE))), ("b", (3, 6, ("and",))), ("c", (3, 5, use("a")))), None)
        self.same((("a", (0, 0, ("some", TRUE))), ("c", (3, 6, use("a")))), ("great", "c"))

    def test_bent(self):
        self.same(BOOK, None)
        rules = set()
        for value in replaced_everywhere(BOOK, (deep_nest(190), 10 ** 400)):
            told = book_breach(value)
            if told is not None:
                rules.add(told[0])
        self.assertLessEqual({"form", "fit"}, rules)
        swapped = [book_breach(tuple((name, (k, d, eval(repr(formula).replace(a, b)))) for name, (k, d, formula) in BOOK))
                   for a, b in (("'box'", "'bax'"), ("'box'", "'pair'"), ("'even'", "'box'"))]
        self.assertEqual(swapped, [("unnamed", "bax"), ("fit", "pair"), ("fit", "pair")])


class Written(unittest.TestCase):
    def test_by_hand(self):
        self.assertEqual(hangs_on(book=BOOK, name="pair"), ("box", "even"))
        self.assertEqual(hangs_on(BOOK, "box"), ())
        self.assertEqual(written_out(book=BOOK, name="box"), (1, 1, BOX))
        self.assertEqual(written_out(BOOK, "pair"), (1, 2, (
            "and", ("and", ("row", (0, 0, 1, 0)), ("row", (0, 1, -1, 0))), ("and", ("row", (0, 0, 1, 1)), ("row", (0, 1, -1, -1))),
            ("some", ("and", ("row", (3, 0, 0, 1, -2)), ("row", (-3, 0, 0, -1, 2)))))))

    def test_letters_of_some(self):
        # Forms over letters under "some", around a room with "some" in it.
        book = (("a", (0, 2, ("some", ("row", (1, 2, 3, 5))))), ("b", (1, 0, ("some", ("not", use("a", (7, 1, 4), (0, 0, 1)))))))
        self.assertEqual(written_out(book, "b"), (1, 0, ("some", ("not", ("some", ("row", (15, 2, 11, 5)))))))

    def test_far_names(self):
        names = [f"{a}{b}" for a in "abcdefghij" for b in "abcdefghij"]
        book = tuple((name, (0, 1, use(after, (1, 1)))) for name, after in zip(names, names[1:])) + ((names[-1], (0, 1, ("row", (0, 1)))),)
        self.assertEqual(hangs_on(book, "aa"), tuple(names[1:]))
        self.assertEqual(written_out(book, "aa"), (0, 1, ("row", (99, 1))))

    def test_not_named(self):
        for name in (*JUNK, "c", "", "Box", "boxes", ("box",), ["box"], deep_nest(200)):
            for call in (hangs_on, written_out):
                with self.assertRaises(NotNamed) as caught:
                    call(BOOK, name)
                self.assertIs(caught.exception.name, name)
                self.assertRaises(NotNamed, call, (), name)

    def test_random(self):
        rng = random.Random(891)

        def formula(m, depth, ahead):
            pick = rng.randint(0, 7)
            if pick <= 2 and ahead:
                name, letters = rng.choice(ahead)
                return use(name, *[random_form(rng, m, 3) for _ in range(letters)])
            if pick == 3 and m < 9 and depth:
                return ("some", formula(m + 1, depth - 1, ahead))
            if pick <= 5 and depth:
                return (rng.choice(("and", "or")), *[formula(m, depth - 1, ahead) for _ in range(rng.randint(0, 2))])
            if pick == 6 and depth:
                return ("not", formula(m, depth - 1, ahead))
            return ("row", random_form(rng, m, 3)) if rng.randint(0, 1) else ("divides", rng.randint(2, 12), random_form(rng, m, 3))

        sound = 0
        for _ in range(150):
            rooms, ahead = {}, []
            for name in rng.sample(["a", "b", "cc", "d", "e"], rng.randint(1, 5)):
                k, d = rng.randint(0, 2), rng.randint(0, 2)
                rooms[name] = (k, d, formula(k + d, 2, ahead))
                ahead.append((name, k + d))
            book = tuple(sorted(rooms.items()))
            told = book_breach(book)
            self.assertIn((told or ("great",))[0], ("great",))
            if told is None:
                sound += 1
                for name in rooms:
                    wanted = written(book, name)
                    self.assertEqual(written_out(book, name), wanted)
                    self.assertIsNone(formula_breach(wanted[2], wanted[0] + wanted[1]))
                    uses = {used for used in rooms if f"('named', '{used}'" in repr(rooms[name])}
                    for used in list(uses):
                        uses |= set(hangs_on(book, used))
                    self.assertEqual(hangs_on(book, name), tuple(sorted(uses)))
                    if wanted[0] + wanted[1] == 0 and "some" not in repr(wanted):
                        self.assertIn(tried(wanted[2], (), 0), (True, False))
        self.assertGreater(sound, 80)


if __name__ == "__main__":
    unittest.main()
