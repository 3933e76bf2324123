"""Plain runs of nests: rounds, touches, meetings and cells alive at one choice of sizes."""

from pointtally.errors import NotFit, TooMany
from pointtally.forms import form_value
from pointtally.listing import holds_within

MOST_RUNS = 10000


def numbered(body, first):
    """Return (body with the number of each statement in the place of its touches, number behind the last one)."""
    told = []
    for part in body:
        if part[0] == "do":
            told.append(("do", first))
            first += 1
        else:
            inner, first = numbered(part[-1], first)
            told.append((*part[:-1], inner))
    return (tuple(told), first)


def statements_of(body):
    """Return the touches of the statements in a body, in the text's sequence."""
    found = []
    for part in body:
        if part[0] == "do":
            found.append(part[1])
        else:
            found += statements_of(part[-1])
    return found


class Runner:
    """Runs a nest and keeps its rounds."""

    def __init__(self, k, body):
        self.k = k
        self.body = numbered(body, 0)[0]
        self.runs = 0
        self.done = []

    def go(self, body, t):
        """Run a body at sizes and counters t."""
        for part in body:
            if part[0] == "do":
                self.done.append((part[1], t[self.k:]))
            elif part[0] == "loop":
                self.go_round(part, t)
            elif holds_within(part[1], t, 0):
                self.go(part[2], t)

    def go_round(self, part, t):
        """Run a loop at sizes and counters t."""
        _, lows, highs, step, body = part
        counter = max([form_value(form, t) for form in lows])
        end = min([form_value(form, t) for form in highs])
        while counter <= end:
            self.runs += 1
            if self.runs > MOST_RUNS:
                raise TooMany(MOST_RUNS)
            self.go(body, (*t, counter))
            counter += step


def run(nest, p):
    """Return the rounds (statement, counters) of a nest at p, in sequence."""
    _, k, body = nest
    if len(p) != k:
        raise NotFit()
    runner = Runner(k, body)
    runner.go(runner.body, p)
    return tuple(runner.done)


def touches_of(text, t):
    """Return the touches (kind, array, cell) of a round, text being those of its statement, t sizes and counters."""
    told = []
    for kind, array, indexes in text:
        told.append((kind, array, tuple([form_value(form, t) for form in indexes])))
    return told


def touches(nest, p):
    """Return the touches (statement, counters, kind, array, cell) of all rounds of a nest at p, in sequence."""
    texts = statements_of(nest[2])
    found = []
    for statement, counters in run(nest, p):
        for told in touches_of(texts[statement], (*p, *counters)):
            found.append((statement, counters, *told))
    return tuple(found)


def is_kind(kind, wanted):
    """Tell whether a touch of a kind counts as one of a wanted kind."""
    return wanted == "any" or kind == wanted


def _cells(texts, p, one, array, wanted):
    """Return the cells of an array that a round touches by a wanted kind."""
    statement, counters = one
    told = touches_of(texts[statement], (*p, *counters))
    return [cell for kind, own, cell in told if own == array and is_kind(kind, wanted)]


def first_meet(nest, array, s, t, kinds, p):
    """Return the counters of the first round of t that meets one of s ahead of it, behind those of the last such."""
    texts = statements_of(nest[2])
    last = {}
    for place, one in enumerate(run(nest, p)):
        if one[0] == t:
            ahead = [last[cell] for cell in _cells(texts, p, one, array, kinds[1]) if cell in last]
            if ahead:
                return (max(ahead)[1], one[1])
        if one[0] == s:
            for cell in _cells(texts, p, one, array, kinds[0]):
                last[cell] = (place, one[1])
    return None


def peak(nest, array, s, p):
    """Return the greatest number of cells of an array that are alive at a round of a statement, 0 if there is none."""
    texts = statements_of(nest[2])
    rounds = run(nest, p)
    first, last = {}, {}
    for place, one in enumerate(rounds):
        for cell in _cells(texts, p, one, array, "any"):
            first.setdefault(cell, place)
            last[cell] = place
    changes = [0] * (len(rounds) + 1)
    for cell, place in first.items():
        # A cell is alive from its first round on, and no more at its last one.
        changes[place] += 1
        changes[last[cell]] -= 1
    alive, greatest = 0, 0
    for one, change in zip(rounds, changes):
        alive += change
        if one[0] == s:
            greatest = max(greatest, alive)
    return greatest
