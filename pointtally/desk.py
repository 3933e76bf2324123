"""A desk: a book of named rooms that is written in, taken back and told about."""

from pointtally.books import book_breach, is_name, need_book, stands_in, written_out
from pointtally.counting import tally_of
from pointtally.errors import NotBook, NotDeed, NotDone, NotNamed, NotUndone, TooMany
from pointtally.forms import word_of


def _with_pair(book, name, room):
    """Return a book with a pair at the place of its name, or behind all others if that is no name."""
    pair = (name, room)
    if not is_name(name):
        return (*book, pair)
    ahead = [other for other in book if other[0] < name]
    behind = [other for other in book if other[0] > name]
    return (*ahead, pair, *behind)


class Desk:
    """Keeps a book, the deeds done to it, and the tallies that were told of its rooms."""

    def __init__(self, book=(), *, most=50):
        self._book = need_book(book)
        self._most = most
        # Deeds that stand with the book before each, deeds taken back with the book behind each.
        self._done = []
        self._undone = []
        self._told = []

    @property
    def book(self):
        """The book as it stands."""
        return self._book

    @property
    def deeds(self):
        """The deeds that stand."""
        return tuple([deed for deed, _ in self._done])

    @property
    def made(self):
        """How many unlike written out rooms a tally was told of."""
        return len(self._told)

    def _book_after(self, deed):
        """Return the book that would come of a deed."""
        if deed[0] == "write":
            return _with_pair(self._book, deed[1], deed[2])
        if not stands_in(self._book, deed[1]):
            raise NotNamed(deed[1])
        return tuple([pair for pair in self._book if pair[0] != deed[1]])

    def do(self, deed):
        """Do a deed, any value."""
        if word_of(deed, 3) != "write" and word_of(deed, 2) != "drop":
            raise NotDeed()
        if len(self._done) >= self._most:
            raise TooMany(self._most)
        book = self._book_after(deed)
        told = book_breach(book)
        if told is not None:
            rule, what = told
            raise NotBook(rule, what)
        self._done.append((deed, self._book))
        self._undone = []
        self._book = book

    def undo(self):
        """Take the last deed that stands back and return it."""
        if len(self._done) == 0:
            raise NotDone()
        deed, book = self._done.pop()
        self._undone.append((deed, self._book))
        self._book = book
        return deed

    def again(self):
        """Do the deed that was taken back last once more and return it."""
        if len(self._undone) == 0:
            raise NotUndone()
        deed, book = self._undone.pop()
        self._done.append((deed, self._book))
        self._book = book
        return deed

    def _known(self, room):
        """Return the list of the tally that was told of a room, () if none was."""
        return [tally for own, tally in self._told if own == room]

    def tally(self, name):
        """Return a tally of the written out room of a name."""
        room = written_out(self._book, name)
        known = self._known(room)
        if known:
            return known[0]
        k, d, formula = room
        tally = tally_of(k, d, formula)
        self._told.append((room, tally))
        return tally

    def kept(self, name):
        """Tell whether a tally of the written out room of a name was told here."""
        return len(self._known(written_out(self._book, name))) > 0

    def twin(self):
        """Return a desk of its own that stands alike."""
        other = Desk(self._book, most=self._most)
        other._done = list(self._done)
        other._undone = list(self._undone)
        other._told = list(self._told)
        return other
