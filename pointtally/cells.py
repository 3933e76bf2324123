"""Cells: what rows cut out of fractions, told by the corners and rays of it.

A cell is (rows, spots): spots are pairs (vector, bits). A vector (w, x1, .., xk) stands for the corner x / w, or, where
w is 0, for a ray; the bits tell which rows are 0 there, the last bit of all that w is.
"""

from pointtally.forms import common_part, form_plus, form_times, letter_form, product_sum

ALWAYS = 1
NEVER = -1
SOMETIMES = 0


def quarter_cells(k):
    """Return pairs (signs, cell): in each of them no letter changes its sign; of all letters below 0 first."""
    found = [()]
    for _ in range(k):
        found = [(*signs, sign) for signs in found for sign in (-1, 1)]
    return [(signs, _quarter(signs)) for signs in found]


def _quarter(signs):
    """Return the cell of the whole tuples with these signs, 0 being above 0."""
    k = len(signs)
    rows, spots = [], [((1, *[0 if sign > 0 else -1 for sign in signs]), (1 << k) - 1)]
    for i, sign in enumerate(signs):
        row = form_times(letter_form(i, k), sign)
        rows.append(row if sign > 0 else form_plus(row, -1))
        # Along its own ray a letter goes away from 0, and the others stay.
        spots.append(((0, *row[1:]), (1 << (k + 1)) - 1 - (1 << i)))
    return (tuple(rows), tuple(spots))


def opposite(row):
    """Return the row that holds at just the whole tuples at which a row does not."""
    return form_plus(form_times(row, -1), -1)


def side_of(cell, row):
    """Tell whether a row holds at all whole tuples of a cell, or at none, as far as its spots tell."""
    always, never = True, True
    for vector, _ in cell[1]:
        number = product_sum(row, vector)
        w = vector[0]
        # At whole tuples a row is whole, so that it holds where it is above -1.
        if number < 0 and number + w <= 0:
            always = False
        if number > 0 or (number == 0 and w > 0):
            never = False
    if always:
        return ALWAYS
    return NEVER if never else SOMETIMES


def _are_neighbours(spots, i, j):
    """Tell whether an edge joins two spots: no other one lies on all walls that both share."""
    shared = spots[i][1] & spots[j][1]
    for place, (_, bits) in enumerate(spots):
        if place != i and place != j and bits & shared == shared:
            return False
    return True


def cut(cell, row):
    """Return the cell where a row holds, None if no fractions are left."""
    rows, spots = cell
    # The rows ahead, and w, have the bits below this one.
    top = 1 << (len(rows) + 1)
    numbers = [product_sum(row, vector) for vector, _ in spots]
    told = []
    for (vector, bits), number in zip(spots, numbers):
        if number >= 0:
            told.append((vector, bits | top if number == 0 else bits))
    for i, one in enumerate(numbers):
        if one > 0:
            for j, other in enumerate(numbers):
                if other < 0 and _are_neighbours(spots, i, j):
                    between = [one * b - other * a for a, b in zip(spots[i][0], spots[j][0])]
                    part = common_part(between)
                    told.append((tuple([entry // part for entry in between]), spots[i][1] & spots[j][1] | top))
    if not any([vector[0] for vector, _ in told]):
        return None
    return ((*rows, row), tuple(told))


def needed_rows(cell):
    """Return the rows of a cell without those that are 0 at none of its spots, and so tell nothing."""
    every = 0
    for _, bits in cell[1]:
        every |= bits
    rows = cell[0]
    k = len(rows[0]) - 1
    # The bit behind those of the first k rows is that of w.
    return tuple([row for i, row in enumerate(rows) if every >> (i if i < k else i + 1) & 1 == 1])


def norm_form(signs):
    """Return the form that is the sum of the absolute values of letters with these signs."""
    return (0, *signs)


def is_beyond(signs, cell, most):
    """Tell whether the absolute values of each point of a cell with these signs add up to more than most."""
    for (w, *entries), _ in cell[1]:
        if w > 0 and product_sum(signs, entries) <= most * w:
            return False
    return True


def reach_of(signs, cell, count):
    """Return a number: points up to which absolute values add up tell whether something is 0 at all points of a cell.

    It is so if it is 0 at count points in a row, wherever along whichever ray.
    """
    far, long = 0, 0
    for (w, *entries), _ in cell[1]:
        total = product_sum(signs, entries)
        if w > 0:
            far = max(far, -(-total // w))
        else:
            long = max(long, total)
    return far + len(signs) * long * (count + 1)
