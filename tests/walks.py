"""A plain second walk through nests of loops, and random nests."""

from tests.oracles import value_of
from tests.tools import tried


def walk(nest, p):
    """Return the list of (statement, counters, touches of that statement at these) of a nest, in sequence."""
    statement = [0]
    found = []

    def places(body):
        """Return the body with a number for each statement."""
        told = []
        for part in body:
            if part[0] == "do":
                told.append((part, statement[0]))
                statement[0] += 1
            else:
                told.append((part, places(part[-1])))
        return told

    def go(body, counters):
        for part, inner in body:
            if part[0] == "do":
                cells = [(kind, array, tuple(value_of(form, (*p, *counters)) for form in forms)) for kind, array, forms in part[1]]
                found.append((inner, counters, cells))
            elif part[0] == "if":
                if tried(part[1], (*p, *counters), 0):
                    go(inner, counters)
            else:
                first = max(value_of(form, (*p, *counters)) for form in part[1])
                last = min(value_of(form, (*p, *counters)) for form in part[2])
                for counter in range(first, last + 1, part[3]):
                    go(inner, (*counters, counter))

    go(places(nest[2]), ())
    return found


def counters_of(nest):
    """Return how many counters there are around each statement."""
    found = []

    def go(body, many):
        for part in body:
            if part[0] == "do":
                found.append(many)
            else:
                go(part[-1], many + (part[0] == "loop"))

    go(nest[2], 0)
    return found


def kinds_fit(kind, wanted):
    return wanted in (kind, "any")


def cells_of(rounds, array, kind):
    """Return the set of the cells of an array that rounds touch so."""
    return {cell for _, _, cells in rounds for own, name, cell in cells if name == array and kinds_fit(own, kind)}


def meeting_pairs(rounds, array, s, t, kinds):
    """Return pairs (place of the first round, place of the second one) that meet."""
    found = []
    for j, (statement, _, cells) in enumerate(rounds):
        if statement == t:
            behind = {cell for kind, name, cell in cells if name == array and kinds_fit(kind, kinds[1])}
            for i, (other, _, told) in enumerate(rounds[:j]):
                if other == s and behind & {cell for kind, name, cell in told if name == array and kinds_fit(kind, kinds[0])}:
                    found.append((i, j))
    return found


def alive_at(rounds, array, place):
    """Return the set of the cells of an array that are alive at the round at a place."""
    return cells_of(rounds[:place + 1], array, "any") & cells_of(rounds[place + 1:], array, "any")


def random_nest(rng, k, loops=2, statements=3, steps=(1, 1, 2, 3), wide=2):
    """Return a random nest whose loops run a few times for small sizes."""
    left = [statements]
    width = {name: rng.randint(1, 2) for name in ("a", "b", "cc")}

    def form(letters, first, high=1):
        return (rng.randint(-first, first), *[rng.randint(-1, 1) for _ in range(k)], *[rng.choice((0, 0, *range(-high, high + 1))) for _ in range(letters - k)])

    def statement(letters):
        left[0] -= 1
        touches = []
        for _ in range(rng.choice((0, 1, 1, 2, 2))):
            array = rng.choice(("a", "a", "b", "cc"))
            indexes = tuple((rng.randint(-2, 2), *[rng.randint(-1, 1) for _ in range(k)], *[rng.randint(-wide, wide) for _ in range(letters - k)]) for _ in range(width[array]))
            touches.append((rng.choice(("read", "write")), array, indexes))
        return ("do", tuple(touches))

    def body(letters, around):
        parts = []
        for _ in range(rng.randint(1, 2)):
            pick = rng.randint(0, 5)
            if left[0] <= 0 and parts:
                break
            if around < loops and pick <= 3:
                lows = tuple(form(letters, 2) for _ in range(rng.choice((1, 1, 2))))
                highs = tuple((rng.randint(0, 4), *one[1:]) for one in (form(letters, 2) for _ in range(rng.choice((1, 1, 2)))))
                parts.append(("loop", lows, highs, rng.choice(steps), body(letters + 1, around + 1)))
            elif pick == 4 and around:
                atom = rng.choice((("row", form(letters, 2)), ("divides", rng.randint(2, 3), form(letters, 2)), ("not", ("row", form(letters, 2)))))
                parts.append(("if", atom, (statement(letters),)))
            else:
                parts.append(statement(letters))
        return tuple(parts)

    return ("nest", k, body(k, 0))
