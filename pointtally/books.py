"""Books of named rooms, whose formulas may use one another by name."""

from pointtally.errors import NotBook, NotNamed
from pointtally.formulas import formula_put_in, own_breach
from pointtally.forms import MOST_LETTERS, is_between, is_form, word_of
from pointtally.halls import MOST_PARAMETERS, MOST_UNKNOWNS
from pointtally.nests import is_word

LONGEST_NAME = 20
MOST_PAIRS = 100
MOST_NODES = 200
MOST_ROWS = 12
MOST_SOME = 3


def is_name(value):
    """Tell of any value whether it is a name."""
    return is_word(value, LONGEST_NAME)


def _is_named(node, m):
    """Tell of any value whether it is a node that uses a name, over m letters."""
    if word_of(node, 3) != "named" or not is_name(node[1]) or not isinstance(node[2], tuple):
        return False
    return all([is_form(form, m) for form in node[2]])


def nodes_of(formula, m):
    """Return pairs (node, letters in force) of any value as a formula over m letters, None if it is none."""
    waiting, found = [(formula, m)], []
    while waiting:
        node, letters = waiting.pop()
        if not _is_named(node, letters):
            if own_breach(node, letters) is not None:
                return None
            if node[0] not in ("row", "divides"):
                inner = letters + 1 if node[0] == "some" else letters
                waiting += [(part, inner) for part in node[1:]]
        found.append((node, letters))
    return found


def room_nodes(value):
    """Return what nodes_of tells of the formula of any value as a room, None if it is none."""
    if not isinstance(value, tuple) or len(value) != 3:
        return None
    k, d, formula = value
    if not is_between(k, 0, MOST_PARAMETERS) or not is_between(d, 0, MOST_UNKNOWNS):
        return None
    return nodes_of(formula, k + d)


def _form_breach(value):
    """Return -1 or the index of what is wrong with any value as pairs of names and rooms, None if nothing is."""
    if not isinstance(value, tuple) or len(value) > MOST_PAIRS:
        return -1
    last = ""
    for i, pair in enumerate(value):
        if not isinstance(pair, tuple) or len(pair) != 2 or not is_name(pair[0]) or pair[0] <= last:
            return i
        if room_nodes(pair[1]) is None:
            return i
        last = pair[0]
    return None


class Sizes:
    """How great a formula is: nodes, rows and divisibilities, nodes "some", letters in force behind the first ones."""

    def __init__(self, nodes, m, known):
        self.nodes, self.rows, self.somes, self.more = 0, 0, 0, 0
        for node, letters in nodes:
            if node[0] == "named":
                self.take(known[node[1]], letters - m)
            else:
                self.nodes += 1
                self.rows += int(node[0] in ("row", "divides"))
                self.somes += int(node[0] == "some")
                self.more = max(self.more, letters - m)

    def take(self, other, more):
        """Take in the sizes of another formula, in whose place so many more letters are in force."""
        self.nodes += other.nodes
        self.rows += other.rows
        self.somes += other.somes
        self.more = max(self.more, more + other.more)

    def is_great(self, m):
        """Tell whether a formula over m letters is greater than it may be."""
        if self.nodes > MOST_NODES or self.rows > MOST_ROWS:
            return True
        return self.somes > MOST_SOME or m + self.more > MOST_LETTERS


class Pages:
    """What stands in pairs of names and rooms whose writing is right."""

    def __init__(self, book):
        self.rooms = {name: room for name, room in book}
        self.told = {name: room_nodes(room) for name, room in book}
        self.uses = {}
        for name, nodes in self.told.items():
            self.uses[name] = [(node[1], len(node[2])) for node, _ in nodes if node[0] == "named"]

    def width(self, name):
        """Return how many letters the room of a name has."""
        k, d, _ = self.rooms[name]
        return k + d

    def unnamed(self):
        """Return the ascending names that are used and stand in no pair."""
        found = {}
        for uses in list(self.uses.values()):
            for name, _ in uses:
                if name not in self.rooms:
                    found[name] = True
        return sorted(found)

    def unfit(self):
        """Return the ascending names whose rooms use a name with another number of forms than its room has letters."""
        found = []
        for name, uses in self.uses.items():
            if any([many != self.width(used) for used, many in uses]):
                found.append(name)
        return sorted(found)

    def hung_on(self, name):
        """Return the ascending names on which a name hangs."""
        waiting, found = [used for used, _ in self.uses[name]], {}
        while waiting:
            used = waiting.pop()
            if used not in found:
                found[used] = True
                waiting += [more for more, _ in self.uses[used]]
        return sorted(found)

    def in_rings(self):
        """Return the ascending names that hang on themselves."""
        return [name for name in sorted(self.rooms) if name in self.hung_on(name)]

    def in_sequence(self, names):
        """Return names, none of which hangs on itself, each behind those of them that it uses."""
        waiting, found = [(name, False) for name in names], {}
        while waiting:
            name, is_ready = waiting.pop()
            if is_ready:
                found[name] = True
            elif name not in found:
                waiting.append((name, True))
                waiting += [(used, False) for used, _ in self.uses[name] if used in names]
        return list(found)

    def great(self):
        """Return the ascending names whose written out formulas are too great."""
        known, found = {}, []
        for name in self.in_sequence(sorted(self.rooms)):
            m = self.width(name)
            known[name] = Sizes(self.told[name], m, known)
            if known[name].is_great(m):
                found.append(name)
        return sorted(found)


def book_breach(value):
    """Return None if any value is a book in which all is right, otherwise (rule, what) of what is wrong first."""
    place = _form_breach(value)
    if place is not None:
        return ("form", place)
    pages = Pages(value)
    names = pages.unnamed()
    if names:
        return ("unnamed", names[0])
    names = pages.unfit()
    if names:
        return ("fit", names[0])
    names = pages.in_rings()
    if names:
        return ("ring", names[0])
    names = pages.great()
    return ("great", names[0]) if names else None


def need_book(value):
    """Return any value that is a book in which all is right."""
    told = book_breach(value)
    if told is not None:
        rule, what = told
        raise NotBook(rule, what)
    return value


def stands_in(book, name):
    """Tell of any value whether it is a name that stands in a pair of a book."""
    return isinstance(name, str) and name in [own for own, _ in book]


def _need_named(book, name):
    """Raise NotNamed for any value that is no name of a pair."""
    if not stands_in(book, name):
        raise NotNamed(name)


def hangs_on(book, name):
    """Return the ascending names on which a name hangs."""
    _need_named(book, name)
    return tuple(Pages(book).hung_on(name))


def _replaced(formula, m, known):
    """Return a formula over m letters with each node that uses a name replaced by what is known of it."""
    word = formula[0]
    if word in ("row", "divides"):
        return formula
    if word == "named":
        return formula_put_in(known[formula[1]], formula[2], m)
    inner = m + 1 if word == "some" else m
    return (word, *[_replaced(part, inner, known) for part in formula[1:]])


def written_out(book, name):
    """Return the room of a name with all names in it replaced by what they stand for."""
    _need_named(book, name)
    pages = Pages(book)
    known = {}
    for own in pages.in_sequence([*pages.hung_on(name), name]):
        known[own] = _replaced(pages.rooms[own][2], pages.width(own), known)
    k, d, _ = pages.rooms[name]
    return (k, d, known[name])
