"""Systems of rows: points, or factors that show that there are none; least values."""

from pointtally.errors import NoPoint, NotFit
from pointtally.forms import are_counts, are_numbers, form_sum, form_times, is_number, product_sum, word_of
from pointtally.fractions import compare, fraction, is_fraction, plus, times
from pointtally.tableaus import Tableau


def summed(m, rows, factors):
    """Return the form that is the sum of the rows, each times its factor."""
    if len(factors) != len(rows):
        raise NotFit()
    total = (0,) * (m + 1)
    for row, factor in zip(rows, factors):
        total = form_sum(total, form_times(row, factor))
    return total


def value_at_fractions(form, point):
    """Return the value of a form at fractions, as a fraction."""
    total = (form[0], 1)
    for entry, part in zip(form[1:], point):
        total = plus(total, times((entry, 1), part))
    return total


def _is_point(m, rows, value):
    """Tell of any value whether it is a point of the system."""
    if not isinstance(value, tuple) or len(value) != m or not all([is_fraction(entry) for entry in value]):
        return False
    return all([value_at_fractions(row, value)[0] >= 0 for row in rows])


def are_empty_factors(m, rows, value):
    """Tell of any value whether it is factors by which the rows add up to something below 0."""
    if not are_counts(value, len(rows)):
        return False
    total = summed(m, rows, value)
    return total[0] < 0 and not any(total[1:])


def settled(m, rows):
    """Return ("point", point), or ("factors", factors) if the system has no point."""
    told = least(m, rows, (0,) * (m + 1))
    if told[0] == "empty":
        return ("factors", told[1])
    return ("point", told[2])


def is_settled(m, rows, value):
    """Tell of any value whether settled might return it."""
    word = word_of(value, 2)
    if word == "point":
        return _is_point(m, rows, value[1])
    return word == "factors" and are_empty_factors(m, rows, value[1])


def least(m, rows, f):
    """Return ("least", v, point, n, factors), ("falls", point, ray) or ("empty", factors)."""
    tableau = Tableau(m, rows, f)
    tableau.hold_letters()
    low = tableau.settle()
    if low >= 0:
        own = tableau.held[low] - m
        return ("empty", tableau.factors(tableau.lines[low], own, len(rows))[1])
    falling = tableau.fall()
    if falling >= 0:
        return ("falls", tableau.point(), tableau.ray(falling))
    n, factors = tableau.factors(tableau.aim, -1, len(rows))
    return ("least", fraction(tableau.aim[0], tableau.by), tableau.point(), n, factors)


def _is_least_told(m, rows, f, value):
    """Tell of any tuple of five whether its entries behind the word tell the least value of f."""
    _, v, point, n, factors = value
    if not is_fraction(v) or not _is_point(m, rows, point) or compare(value_at_fractions(f, point), v) != 0:
        return False
    if not is_number(n) or n < 1 or not are_counts(factors, len(rows)):
        return False
    rest = form_sum(form_times(f, n), form_times(summed(m, rows, factors), -1))
    return (rest[0], 1) == times((n, 1), v) and not any(rest[1:])


def _falls_along(m, rows, f, ray):
    """Tell of any value whether it is a ray along which f falls and no row does."""
    if not are_numbers(ray, m) or product_sum(f[1:], ray) >= 0:
        return False
    return all([product_sum(row[1:], ray) >= 0 for row in rows])


def is_least(m, rows, f, value):
    """Tell of any value whether least might return it."""
    if word_of(value, 5) == "least":
        return _is_least_told(m, rows, f, value)
    if word_of(value, 3) == "falls":
        return _is_point(m, rows, value[1]) and _falls_along(m, rows, f, value[2])
    return word_of(value, 2) == "empty" and are_empty_factors(m, rows, value[1])


def follows(m, rows, row):
    """Tell whether the row is from 0 on at every point of the system."""
    tableau = _bare_tableau(m, rows, row)
    return tableau.settle() >= 0 or tableau.stays()


def _bare_tableau(m, rows, f):
    """Return a tableau that tells what is so, but no points and no rays."""
    tableau = Tableau(m, rows, f)
    tableau.drop_letters()
    return tableau


def has_fractions(m, rows):
    """Tell whether a system has a point."""
    firsts = {}
    for row in rows:
        head = row[1:]
        # Two rows whose heads are opposite often tell it at once.
        other = firsts.get(tuple([-entry for entry in head]))
        if (other is not None and row[0] + other < 0) or (row[0] < 0 and not any(head)):
            return False
        firsts[head] = min(row[0], firsts.get(head, row[0]))
    return _bare_tableau(m, rows, (0,) * (m + 1)).settle() < 0


def _with_point(m, rows):
    """Return a settled tableau of a system; raise NoPoint if it has no point."""
    tableau = _bare_tableau(m, rows, (0,) * (m + 1))
    if tableau.settle() >= 0:
        raise NoPoint()
    return tableau


def bare(m, rows):
    """Return the ascending indexes of rows that tell the same points, none of which follows from the others."""
    tableau = _with_point(m, rows)
    kept = []
    for i in range(len(rows)):
        rest = tableau.copied()
        # The rest still has a point, so that settling it always ends well.
        if rest.loosen(m + i) and rest.settle() < 0 and rest.stays():
            tableau = rest
        else:
            kept.append(i)
    return tuple(kept)


def flat(m, rows):
    """Return the ascending indexes of the rows that are 0 at every point."""
    tableau = _with_point(m, rows)
    found = []
    for i in range(len(rows)):
        tableau.aim_below(m + i)
        if tableau.stays():
            found.append(i)
    return tuple(found)


def inside(m, rows):
    """Return ("inside", point) with all rows above 0, or ("walls", factors) if there is none."""
    # A letter more, at most 1, is how far all rows may be above 0.
    lifted = [(*row, -1) for row in rows] + [(1, *[0] * m, -1)]
    _, v, point, _, factors = least(m + 1, tuple(lifted), (0, *[0] * m, -1))
    if v[0] < 0:
        return ("inside", point[:m])
    return ("walls", factors[:-1])


def is_inside(m, rows, value):
    """Tell of any value whether inside might return it."""
    word = word_of(value, 2)
    if word == "inside":
        return _is_point(m, rows, value[1]) and 0 not in [value_at_fractions(row, value[1])[0] for row in rows]
    if word != "walls" or not are_counts(value[1], len(rows)) or not any(value[1]):
        return False
    total = summed(m, rows, value[1])
    return total[0] <= 0 and not any(total[1:])
