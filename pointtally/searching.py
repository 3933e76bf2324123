"""Whole points of systems of rows, however long or thin these are."""

from pointtally.addings import has_fractions, least, settled
from pointtally.forms import form_plus, form_sum, form_times, form_value, letter_form, lowered, product_sum, put_in
from pointtally.grids import bezout
from pointtally.matrices import turned
from pointtally.reducing import products_of, reduced_rows
from pointtally.tableaus import Tableau

FINE = 64


def lowered_rows(rows):
    """Return the rows lowered, each head once with the least constant, without those that always hold."""
    firsts = {}
    for row in rows:
        low = lowered(row)
        head = low[1:]
        if low[0] < 0 or any(head):
            firsts[head] = min(low[0], firsts.get(head, low[0]))
    return tuple([(first, *head) for head, first in firsts.items()])


def span(m, rows, form):
    """Return the least and the greatest value of a form as pairs (a, b), None where there is none; None if empty."""
    tableau = Tableau(m, rows, form)
    tableau.drop_letters()
    if tableau.settle() >= 0:
        return None
    ends = []
    for sign in (1, -1):
        ends.append(None if tableau.fall() >= 0 else (sign * tableau.aim[0], tableau.by))
        tableau.aim = [-entry for entry in tableau.aim]
    return tuple(ends)


def _turned_letters(a, b):
    """Return what two letters are by two new ones, so that a times one plus b times the other hangs on the first."""
    part, x, y = bezout(a, b)
    return (x, -b // part), (y, a // part)


def echelon(m, rows):
    """Return (letters, rank): forms of new letters for the letters, by which the rows hang on the first rank alone."""
    letters = [letter_form(i, m) for i in range(m)]
    done = 0
    for row in rows:
        told = list(put_in(row, letters, m))
        for j in range(done + 1, m):
            if told[j + 1] != 0:
                one, other = _turned_letters(told[done + 1], told[j + 1])
                told[done + 1], told[j + 1] = told[done + 1] * one[0] + told[j + 1] * other[0], 0
                letters = [_mixed(form, done + 1, j + 1, (one, other)) for form in letters]
        if done < m and told[done + 1] != 0:
            done += 1
    return (tuple(letters), done)


def _mixed(form, i, j, pair):
    """Return a form with entries i and j led over to two new letters."""
    (a, b), (c, e) = pair
    told = list(form)
    told[i], told[j] = form[i] * a + form[j] * c, form[i] * b + form[j] * e
    return tuple(told)


def solved_whole(m, equations):
    """Return (n, letters): forms over n new letters whose values are all whole solutions; None if there are none."""
    letters = [letter_form(i, m) for i in range(m)]
    n = m
    for equation in equations:
        told = put_in(equation, letters, n)
        if not any(told[1:]):
            if told[0] != 0:
                return None
        else:
            turn, _ = echelon(n, (told,))
            lead = put_in(told, turn, n)
            if lead[0] % lead[1] != 0:
                return None
            first = -lead[0] // lead[1]
            fixed = [(form[0] + first * form[1], *form[2:]) for form in turn]
            n -= 1
            letters = [put_in(form, fixed, n) for form in letters]
    return (n, tuple(letters))


def form_values(letters, z):
    """Return the values of forms at z."""
    return tuple([form_value(form, z) for form in letters])


def led_low_rows(rows, letters, n):
    """Return the rows with forms over n letters put in, lowered."""
    return lowered_rows([put_in(row, letters, n) for row in rows])


def _holds(rows, y):
    """Tell whether all rows hold at y."""
    for row in rows:
        if form_value(row, y) < 0:
            return False
    return True


def _rounded(point):
    """Return a whole tuple nearest to a tuple of fractions."""
    return tuple([(2 * a + b) // (2 * b) for a, b in point])


def _ray_over(m, heads):
    """Return a ray of some heads along which one of them grows, None if there is none."""
    total = (0,) * (m + 1)
    for head in heads:
        total = form_sum(total, head)
    told = least(m, heads, form_times(total, -1))
    return told[2] if told[0] == "falls" else None


def whole_point(m, rows):
    """Return a whole point at which all rows are from 0 on, None if there is none."""
    rows = lowered_rows(rows)
    if not has_fractions(m, rows):
        return None
    guess = _rounded(settled(m, rows)[1])
    if _holds(rows, guess):
        return guess
    heads = tuple([(0, *row[1:]) for row in rows])
    ray = _ray_over(m, heads)
    if ray is None:
        return _core_point(m, rows)
    # Far enough along a ray each row that grows there holds.
    grown = [row for row in rows if product_sum(row[1:], ray) > 0]
    point = whole_point(m, [row for row in rows if product_sum(row[1:], ray) == 0])
    if point is None:
        return None
    far = 0
    for row in grown:
        far = max(far, -(form_value(row, point) // product_sum(row[1:], ray)))
    return tuple([entry + far * step for entry, step in zip(point, ray)])


def _core_point(m, rows):
    """Return a whole point of a system without a ray along which some row grows, None if there is none."""
    letters, done = echelon(m, rows)
    inner = [put_in(row, letters, m)[:done + 1] for row in rows]
    found = whole_points(done, inner, 1)
    if len(found) == 0:
        return None
    return form_values(letters, found[0] + (0,) * (m - done))


def whole_points(m, rows, most):
    """Return at most so many whole points of a system that has no ray, in any sequence."""
    rows = lowered_rows(rows)
    if m == 0:
        return [()] if _holds(rows, ()) else []
    if m == 1:
        low, high = line_ends(rows)
        return [(number,) for number in range(low, min(high, low + most - 1) + 1)]
    if not has_fractions(m, rows):
        return []
    told = short_letters(m, rows)
    if told is None:
        return []
    n, letters = told
    inner = led_low_rows(rows, letters, n)
    found = _sliced(n, inner, most) if n == m else whole_points(n, inner, most)
    return [form_values(letters, z) for z in found]


def short_letters(m, rows):
    """Return (n, letters) for rows without a ray that some fractions keep, None if no whole ones can.

    letters are forms of n new letters for the m letters: fewer ones if some rows are 0 everywhere, otherwise such
    that the rows leave more room along the first ones than along the last ones.
    """
    ends = [span(m, rows, row)[1] for row in rows]
    flats = [row for row, end in zip(rows, ends) if end == (0, end[1])]
    if flats:
        return solved_whole(m, flats)
    return (m, _handy_letters(m, rows, ends))


def line_ends(rows):
    """Return (low, high), between which rows over one letter hold, that leave room for finitely many numbers."""
    lows, highs = [], []
    for first, step in rows:
        if step > 0:
            lows.append(-(first // step))
        elif step < 0:
            highs.append(first // -step)
        elif first < 0:
            return (0, -1)
    return (max(lows), min(highs))


def _handy_letters(m, rows, ends):
    """Return forms of new letters by which the system is long along the first and thin along the last.

    Rows weigh the more the less far they go, so that short vectors are those along which there is room.
    """
    great, by = (1, 1)
    for a, b in ends:
        if a * by > great * b:
            great, by = a, b
    weights = [(FINE * great * great * b * b) // (by * by * a * a) for a, b in ends]
    gram = products_of(m, [(weight, row[1:]) for weight, row in zip(weights, rows)])
    return tuple([(0, *column) for column in turned(reduced_rows(gram), m)])


def last_ends(m, rows):
    """Return the whole ends (low, high) of the last letter over rows without a ray."""
    (low, by), (high, high_by) = span(m, rows, letter_form(m - 1, m))
    return (-(-low // by), high // high_by)


def rows_at_last(rows, number):
    """Return the rows with a number put in for the last letter."""
    return tuple([(row[0] + number * row[-1], *row[1:-1]) for row in rows])


def _sliced(m, rows, most):
    """Return at most so many whole points, the last letter being chosen first, from the middle out."""
    low, high = last_ends(m, rows)
    found = []
    number, step = (low + high) // 2, 0
    while low <= number <= high and len(found) < most:
        inner = rows_at_last(rows, number)
        for point in whole_points(m - 1, inner, most - len(found)):
            found.append((*point, number))
        # From number to number the side changes, and the way grows by one.
        step = -step - 1 if step > 0 else -step + 1
        number += step
    return found


def _held(rows, form, low, high):
    """Return the rows with a form held from low to high."""
    return (*rows, form_plus(form, -low), form_plus(form_times(form, -1), high))


def least_from(m, rows, form, start):
    """Return the least value from start on that a form has at whole points, None if there are none."""
    above = (*rows, form_plus(form, -start))
    point = whole_point(m, above)
    if point is None:
        return None
    a, b = span(m, above, form)[0]
    low, high = -(-a // b), form_value(form, point)
    width = 1
    while low < high:
        middle = min(low + width - 1, high - 1)
        point = whole_point(m, _held(rows, form, low, middle))
        if point is None:
            low, width = middle + 1, 2 * width
        else:
            high = form_value(form, point)
            width = max(1, (high - low) // 2)
    return high
