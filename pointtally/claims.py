"""Claims and sayings, and what is wrong with a value."""

from pointtally.endings import goes_on
from pointtally.forms import are_numbers, is_between, is_number, word_of
from pointtally.formulas import formula_breach
from pointtally.fractions import is_fraction
from pointtally.halls import MOST_PARAMETERS, MOST_UNKNOWNS
from pointtally.polys import is_poly
from pointtally.tallies import tally_breach

KINDS = ("point", "empty", "finite", "count", "sum", "tells", "within", "alike", "parting")
ENTRIES = {
    "point": ("k", "d", "formula", "t"),
    "empty": ("k", "d", "formula"),
    "finite": ("k", "d", "formula"),
    "count": ("k", "d", "ending", "p", "n"),
    "sum": ("k", "d", "ending", "weight", "p", "fraction"),
    "tells": ("k", "d", "ending", "tally"),
    "within": ("k", "d", "formula", "formula"),
    "alike": ("k", "tally", "tally"),
    "parting": ("k", "tally", "tally", "p"),
}
GREATEST = 10 ** 40
MOST_DEGREE = 4


def are_small(value, count):
    """Tell of any value whether it is a tuple of so many integers that are not too great."""
    return are_numbers(value, count) and all([abs(number) <= GREATEST for number in value])


def _is_weight(value, m):
    """Tell of any value whether it is a weight over m letters of a degree that is not too great."""
    return is_poly(m, value) and all([sum(exponents) <= MOST_DEGREE for _, exponents in value])


def _is_number_entry(kind, value):
    """Tell of any value whether it is an entry of a kind that hangs on no other one."""
    if kind == "k":
        return is_between(value, 0, MOST_PARAMETERS)
    if kind == "d":
        return is_between(value, 0, MOST_UNKNOWNS)
    return is_number(value) and value >= 0 if kind == "n" else is_fraction(value)


def _is_entry(kind, value, k, d):
    """Tell of any value whether it is an entry of a kind, k and d being right."""
    if kind in ("k", "d", "n", "fraction"):
        return _is_number_entry(kind, value)
    if kind in ("formula", "ending"):
        return formula_breach(value, k + d) is None and (kind == "formula" or not goes_on(k, d, value))
    if kind == "weight":
        return _is_weight(value, k + d)
    if kind == "tally":
        return tally_breach(value, k) is None
    return are_small(value, k + d if kind == "t" else k)


def claim_breach(value):
    """Return None if any value is a claim, otherwise (rule, place) with the first rule that it breaks."""
    if not isinstance(value, tuple) or len(value) == 0 or not isinstance(value[0], str):
        return ("form", -1)
    if value[0] not in KINDS:
        return ("kind", 0)
    kinds = ENTRIES[value[0]]
    if len(value) != len(kinds) + 1:
        return ("many", -1)
    k, d = value[1], value[2] if kinds[1] == "d" else 0
    for i, kind in enumerate(kinds):
        if not _is_entry(kind, value[i + 1], k, d):
            return ("entry", i + 1)
    return None


def saying_breach(value):
    """Return None if any value is a saying, otherwise (rule, place) with the first rule that it breaks."""
    if word_of(value, 2) not in ("is", "not"):
        return ("form", -1)
    return claim_breach(value[1])


def opposite(saying):
    """Return the saying of the same claim with the other word."""
    word, claim = saying
    return ("not" if word == "is" else "is", claim)


def size_of(paper):
    """Return how many integers and strings there are in a nest of tuples."""
    waiting, count = [paper], 0
    while waiting:
        part = waiting.pop()
        if isinstance(part, tuple):
            waiting += list(part)
        elif isinstance(part, str) or is_number(part):
            count += 1
    return count
