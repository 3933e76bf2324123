"""What several tests need: random things with a fixed seed, wrong values, slow but plain oracles."""

from fractions import Fraction
from itertools import permutations, product

JUNK = (
    None, True, False, 0, 1, -1, 10 ** 400, 1.0, "", "row", "point", b"row", (), [], {}, (0,), [0], (True,), (0, True),
    ("row",), ("row", ()), ("row", [0]), ("point", ()), ("factors", ()), ("bounds", ()), ("ray", ()), ((), ()),
    (((1,),), (0,)), [((1,),), (0,)], ("least",), ("empty", ()), ("inside", ()), ("walls", ()), (None,), ((None,),),
    (0, 0, ()), (0, 0, []), [0, 0, ()], object(), int, len,
)


def deep_nest(depth, inside=()):
    """Return a tuple with something so many tuples deep in it."""
    value = inside
    for _ in range(depth):
        value = (value,)
    return value


def random_form(rng, m, high=5):
    return tuple(rng.randint(-high, high) for _ in range(m + 1))


def random_formula(rng, m, depth, somes=1, high=4):
    """Return a random formula over m letters."""
    pick = rng.randint(0, 9)
    if depth == 0 or pick <= 2:
        if rng.randint(0, 2) == 0:
            return ("divides", rng.randint(2, 12), random_form(rng, m, high))
        return ("row", random_form(rng, m, high))
    if pick <= 6:
        word = rng.choice(("and", "or"))
        return (word, *(random_formula(rng, m, depth - 1, somes, high) for _ in range(rng.randint(0, 3))))
    if pick == 7 or somes == 0 or m >= 9:
        return ("not", random_formula(rng, m, depth - 1, somes, high))
    return ("some", random_formula(rng, m + 1, depth - 1, somes - 1, high))


def tried(formula, t, reach):
    """Tell by trying whether a formula holds at t."""
    word = formula[0]
    if word in ("row", "divides"):
        form = formula[-1]
        total = form[0]
        for entry, number in zip(form[1:], t, strict=True):
            total += entry * number
        return total >= 0 if word == "row" else total % formula[1] == 0
    if word == "and":
        return all(tried(f, t, reach) for f in formula[1:])
    if word == "or":
        return any(tried(f, t, reach) for f in formula[1:])
    if word == "not":
        return not tried(formula[1], t, reach)
    return any(tried(formula[1], t + (n,), reach) for n in range(-reach, reach + 1))


def cube(m, low, high):
    """Return all tuples of m integers from low to high."""
    return product(range(low, high + 1), repeat=m)


def leibniz(table):
    """Return the determinant as a sum over all permutations."""
    total = 0
    for order in permutations(range(len(table))):
        sign = 1
        for i in range(len(order)):
            for j in range(i):
                if order[j] > order[i]:
                    sign = -sign
        for i, j in enumerate(order):
            sign *= table[i][j]
        total += sign
    return total


def gauss_rank(rows):
    """Return the rank by fractions."""
    left = [[Fraction(entry) for entry in row] for row in rows]
    count = 0
    for column in range(len(left[0]) if left else 0):
        lead = next((row for row in left if row[column] != 0), None)
        if lead is not None:
            left.remove(lead)
            left = [[a - row[column] / lead[column] * b for a, b in zip(row, lead)] for row in left]
            count += 1
    return count


def at(form, point):
    """Return the value of a form at a tuple of numbers or of fraction pairs, as a Fraction."""
    total = Fraction(form[0])
    for entry, part in zip(form[1:], point, strict=True):
        total += entry * (Fraction(*part) if isinstance(part, tuple) else part)
    return total


def digits(rng, many):
    """Return a random integer with at most so many digits, of either sign."""
    return rng.randint(-10 ** many + 1, 10 ** many - 1)


def replaced_everywhere(value, extra=()):
    """Yield values in which one place of a nest of tuples is spoiled: another kind, left out, doubled, a list."""
    for other in (None, True, False, "x", 0.5, (), [], *extra):
        if other != value or type(other) is not type(value):
            yield other
    if isinstance(value, tuple):
        yield list(value)
        yield value + (0,)
        for i, entry in enumerate(value):
            yield value[:i] + value[i + 1:]
            yield value[:i + 1] + value[i:]
            for spoiled in replaced_everywhere(entry):
                yield value[:i] + (spoiled,) + value[i + 1:]
