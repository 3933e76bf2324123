import copy
import random
import unittest

from pointtally.books import book_breach, written_out
from pointtally.counting import tally_of
from pointtally.desk import Desk
from pointtally.errors import NotBook, NotBounded, NotDeed, NotDone, NotNamed, NotUndone, TallyError, TooMany
from tests.oracles import tally_at
from tests.test_books import BOOK, BOX, TRUE, use
from tests.tools import JUNK, deep_nest

HALF = (1, 1, ("and", ("row", (0, 0, 1)), ("row", (0, 1, -2))))
OPEN = (0, 1, ("row", (0, 1)))


class Plain:
    """What a desk does, written down plainly: all books that stood, and which rooms tallies were told of."""

    def __init__(self, book=(), most=50):
        self.books, self.deeds, self.at, self.most, self.rooms = [book], [], 0, most, []

    @property
    def book(self):
        return self.books[self.at]

    def after(self, deed):
        """Return the error that a deed raises, or the book after it."""
        if not isinstance(deed, tuple) or (len(deed), deed[0] if deed else None) not in ((3, "write"), (2, "drop")):
            return NotDeed()
        if self.at >= self.most:
            return TooMany(self.most)
        names = [name for name, _ in self.book]
        if deed[0] == "drop":
            if not isinstance(deed[1], str) or deed[1] not in names:
                return NotNamed(deed[1])
            book = tuple(pair for pair in self.book if pair[0] != deed[1])
        else:
            rest = tuple(pair for pair in self.book if pair[0] != deed[1])
            sound = isinstance(deed[1], str) and deed[1].isascii() and deed[1].isalpha() and deed[1].islower() and len(deed[1]) <= 20
            book = tuple(sorted((*rest, deed[1:]), key=lambda pair: pair[0])) if sound else (*self.book, deed[1:])
        told = book_breach(book)
        return book if told is None else NotBook(*told)

    def do(self, deed):
        told = self.after(deed)
        if not isinstance(told, tuple):
            raise told
        self.books, self.deeds = [*self.books[:self.at + 1], told], [*self.deeds[:self.at], deed]
        self.at += 1

    def undo(self):
        if self.at == 0:
            raise NotDone()
        self.at -= 1
        return self.deeds[self.at]

    def again(self):
        if self.at == len(self.deeds):
            raise NotUndone()
        self.at += 1
        return self.deeds[self.at - 1]

    def room(self, name):
        if not isinstance(name, str) or name not in [own for own, _ in self.book]:
            raise NotNamed(name)
        return written_out(self.book, name)

    def tally(self, name):
        room = self.room(name)
        told = tally_of(*room)
        if room not in self.rooms:
            self.rooms.append(room)
        return told

    def kept(self, name):
        return self.room(name) in self.rooms

    def twin(self):
        return copy.deepcopy(self)


def outcome(call):
    """Return what a call returns, or its error with the attributes."""
    try:
        return call()
    except TallyError as error:
        return type(error).__name__, vars(error)


class Desks(unittest.TestCase):
    def alike(self, desk, plain):
        self.assertEqual(desk.book, plain.book)
        self.assertEqual(desk.deeds, tuple(plain.deeds[:plain.at]))
        self.assertEqual(desk.made, len(plain.rooms))
        for name in ("a", "box", "even", "pair", "half", None):
            self.assertEqual(outcome(lambda: desk.kept(name)), outcome(lambda: plain.kept(name)))

    def test_by_hand(self):
        desk = Desk(BOOK)
        self.assertEqual((desk.book, desk.deeds, desk.made), (BOOK, (), 0))
        tally = desk.tally(name="box")
        self.assertEqual([tally_at(tally, (n,)) for n in (-1, 0, 5, 10 ** 40)], [0, 1, 6, 10 ** 40 + 1])
        self.assertEqual([desk.kept(name=name) for name in ("box", "even", "pair")], [True, False, False])
        self.assertEqual(desk.made, 1)
        self.assertIs(desk.tally("box"), tally)
        self.assertIsNone(desk.do(deed=("write", "box", HALF)))
        self.assertEqual((desk.kept("box"), desk.made, desk.deeds), (False, 1, (("write", "box", HALF),)))
        self.assertEqual([tally_at(desk.tally("box"), (n,)) for n in (-1, 0, 5)], [0, 1, 3])
        self.assertEqual(desk.made, 2)
        self.assertEqual(desk.undo(), ("write", "box", HALF))
        self.assertEqual((desk.book, desk.deeds, desk.kept("box")), (BOOK, (), True))
        self.assertIs(desk.tally("box"), tally)
        self.assertEqual(desk.again(), ("write", "box", HALF))
        self.assertIs(desk.kept("box"), True)
        self.assertEqual(desk.made, 2)

    def test_kept_rooms(self):
        # What a room hangs on counts: it is kept as long as what is written out is the very same.
        desk = Desk((("a", (1, 1, use("c", (0, 1, 0), (0, 0, 1)))), ("c", (1, 1, BOX))))
        desk.tally("a")
        self.assertEqual((desk.kept("a"), desk.kept("c"), desk.made), (True, True, 1))
        desk.do(("write", "c", HALF))
        self.assertEqual((desk.kept("a"), desk.kept("c")), (False, False))
        desk.do(("write", "b", (1, 1, BOX)))
        self.assertIs(desk.kept("b"), True)
        desk.do(("write", "a", (1, 1, use("b", (0, 1, 0), (0, 0, 1)))))
        desk.do(("drop", "c"))
        self.assertEqual((desk.kept("a"), desk.kept("b"), desk.made), (True, True, 1))
        # The same formula in a room with other letters is another room.
        desk.do(("write", "d", (0, 2, BOX)))
        self.assertIs(desk.kept("d"), False)
        # Written over, dropped and written back.
        desk.do(("drop", "d"))
        desk.do(("drop", "a"))
        desk.do(("drop", "b"))
        self.assertEqual(desk.book, ())
        desk.do(("write", "z", (1, 1, BOX)))
        self.assertEqual((desk.kept("z"), desk.made), (True, 1))

    def test_not_deed(self):
        desk = Desk(BOOK, most=1)
        for full in (False, True):
            for deed in (*JUNK, ("write",), ("write", "a"), ("write", "a", OPEN, 0), ("drop",), ("drop", "box", 0), ["drop", "box"], ("writes", "a", OPEN), ("dropp", "box"),
                         (b"drop", "box"), (None, "box"), deep_nest(200)):
                self.assertRaises(NotDeed, desk.do, deed)
            self.assertEqual(len(desk.deeds), int(full))
            if not full:
                desk.do(("write", "a", OPEN))

    def test_too_many(self):
        desk = Desk(most=2)
        for name in ("a", "b"):
            desk.do(("write", name, OPEN))
        for deed in (("write", "c", OPEN), ("write", 5, None), ("drop", "zz"), ("drop", None), ("drop", "a")):
            with self.assertRaises(TooMany) as caught:
                desk.do(deed)
            self.assertEqual(caught.exception.limit, 2)
        desk.undo()
        desk.do(("drop", "a"))
        self.assertRaises(TooMany, desk.do, ("write", "a", OPEN))
        self.assertEqual(desk.deeds, (("write", "a", OPEN), ("drop", "a")))
        # Fifty are let if nothing else is told, and two hundred at most.
        for most in (50, 200):
            desk = Desk((("a", OPEN),)) if most == 50 else Desk((("a", OPEN),), most=200)
            for i in range(most):
                desk.do(("write", "a", (0, 1, ("row", (i, 1)))))
            with self.assertRaises(TooMany) as caught:
                desk.do(("write", "a", OPEN))
            self.assertEqual(caught.exception.limit, most)
            for i in range(most - 1, -1, -1):
                self.assertEqual(desk.undo(), ("write", "a", (0, 1, ("row", (i, 1)))))
            self.assertRaises(NotDone, desk.undo)
            for i in range(most):
                self.assertEqual(desk.again(), ("write", "a", (0, 1, ("row", (i, 1)))))
            self.assertRaises(NotUndone, desk.again)

    def test_not_named(self):
        desk = Desk(BOOK)
        for name in (*JUNK, "boxes", "Box", "", deep_nest(200)):
            for call in (lambda: desk.do(("drop", name)), lambda: desk.tally(name), lambda: desk.kept(name)):
                with self.assertRaises(NotNamed) as caught:
                    call()
                self.assertIs(caught.exception.name, name)
        self.assertEqual((desk.book, desk.deeds, desk.made), (BOOK, (), 0))

    def test_not_book(self):
        for value in (*[value for value in JUNK if value != ()], [], (("b", OPEN), ("a", OPEN)), (("a", (0, 0, use("a"))),)):
            with self.assertRaises(NotBook) as caught:
                Desk(value)
            self.assertEqual((caught.exception.rule, caught.exception.what), book_breach(value))
        desk = Desk(BOOK)
        for deed, told in ((("drop", "box"), ("unnamed", "box")), (("write", "box", (0, 1, TRUE)), ("fit", "pair")), (("write", "even", (0, 1, use("even", (0, 1)))), ("ring", "even")),
                           (("write", "a", None), ("form", 0)), (("write", "even", OPEN[:2]), ("form", 1)), (("write", "zz", ()), ("form", 3)), (("write", "", OPEN), ("form", 3)),
                           (("write", None, OPEN), ("form", 3)), (("write", "A", OPEN), ("form", 3)), (("write", ["box"], OPEN), ("form", 3)),
                           (("write", "cc", (0, 0, ("and", *[TRUE] * 200))), ("great", "cc")), (("write", "a" * 21, OPEN), ("form", 3))):
            with self.assertRaises(NotBook) as caught:
                desk.do(deed)
            self.assertEqual((caught.exception.rule, caught.exception.what), told, deed)
            self.assertEqual((desk.book, desk.deeds), (BOOK, ()))
        names = sorted(f"{a}{b}" for a in "abcdefghij" for b in "abcdefghij")
        desk = Desk(tuple((name, OPEN) for name in names))
        with self.assertRaises(NotBook) as caught:
            desk.do(("write", "zz", OPEN))
        self.assertEqual((caught.exception.rule, caught.exception.what), ("form", -1))
        self.assertIsNone(desk.do(("write", "aa", (1, 1, BOX))))

    def test_not_bounded(self):
        desk = Desk((("a", OPEN), ("b", (0, 1, ("and", use("a", (0, 1)), ("row", (9, -1)))))))
        self.assertRaises(NotBounded, desk.tally, "a")
        self.assertEqual((desk.kept("a"), desk.made), (False, 0))
        self.assertEqual(tally_at(desk.tally("b"), ()), 10)

    def test_ends(self):
        desk = Desk()
        self.assertEqual((desk.book, desk.deeds, desk.made), ((), (), 0))
        self.assertRaises(NotDone, desk.undo)
        self.assertRaises(NotUndone, desk.again)
        desk.do(("write", "a", OPEN))
        self.assertRaises(NotUndone, desk.again)
        desk.undo()
        desk.do(("write", "b", OPEN))
        # A new deed forgets what was taken back; one that raises does not.
        self.assertRaises(NotUndone, desk.again)
        desk.undo()
        self.assertRaises(NotNamed, desk.do, ("drop", "b"))
        self.assertEqual(desk.again(), ("write", "b", OPEN))

    def test_twins(self):
        desk = Desk(BOOK, most=3)
        tally = desk.tally("box")
        desk.do(("write", "a", OPEN))
        desk.do(("drop", "a"))
        desk.undo()
        twin = desk.twin()
        self.assertEqual((twin.book, twin.deeds, twin.made, twin.kept("box")), (desk.book, desk.deeds, 1, True))
        self.assertEqual(twin.tally("box"), tally)
        twin.do(("drop", "pair"))
        twin.do(("write", "half", HALF))
        twin.tally("half")
        self.assertEqual((desk.made, desk.deeds, len(desk.book)), (1, (("write", "a", OPEN),), 4))
        self.assertRaises(TooMany, twin.do, ("drop", "a"))
        self.assertEqual(desk.again(), ("drop", "a"))
        self.assertRaises(NotUndone, twin.again)
        self.assertEqual(twin.undo(), ("write", "half", HALF))

    def test_hands_out_nothing_that_changes(self):
        desk = Desk(BOOK)
        desk.do(("write", "a", OPEN))
        book, deeds = desk.book, desk.deeds
        self.assertEqual((type(book), type(deeds), type(desk.twin())), (tuple, tuple, Desk))
        desk.undo()
        self.assertEqual((len(book), len(deeds)), (4, 1))
        for name in ("book", "deeds", "made"):
            with self.assertRaises(AttributeError):
                setattr(desk, name, ())

    def test_arguments(self):
        self.assertRaises(TypeError, Desk, BOOK, 50)
        self.assertEqual(Desk(book=BOOK, most=1).book, BOOK)

    def test_random(self):
        rng = random.Random(901)
        rooms = (OPEN, HALF, (1, 1, BOX), (1, 1, use("box", (0, 1, 0), (1, 0, 1))), (1, 1, ("and", use("half", (0, 1, 0), (0, 0, 1)), use("box", (0, 1, 0), (0, 0, 1)))),
                 (0, 1, use("even", (0, 1))), (1, 1, use("a", (0, 1, 0), (0, 0, 1))), None, (0, 0, TRUE))
        names = ("a", "box", "half", "even", "pair", "", None)
        done = 0
        for _ in range(60):
            start = BOOK[:2] if rng.randint(0, 1) else ()
            desks = [(Desk(start, most=6), Plain(start, 6))]
            for _ in range(30):
                desk, plain = rng.choice(desks)
                name = rng.choice(names)
                deed = rng.choice((("write", name, rng.choice(rooms)), ("drop", name), ("write", name)))
                pick = rng.randint(0, 9)
                if pick <= 4:
                    done += outcome(lambda: desk.twin().do(deed)) is None
                    calls = (lambda one: one.do(deed))
                elif pick <= 6:
                    calls = (lambda one: one.undo()) if rng.randint(0, 1) else (lambda one: one.again())
                elif pick <= 8:
                    calls = (lambda one: one.tally(name))
                else:
                    desks.append((desk.twin(), plain.twin()))
                    calls = (lambda one: one.deeds[:0])
                told, wanted = outcome(lambda: calls(desk)), outcome(lambda: calls(plain))
                self.assertEqual(told, type(told)(wanted) if isinstance(wanted, list) else wanted)
                for pair in desks:
                    self.alike(*pair)
        self.assertGreater(done, 100)


if __name__ == "__main__":
    unittest.main()
