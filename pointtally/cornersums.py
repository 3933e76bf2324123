"""What the corners of a block add up to.

A BLOCK is (k, d, must, free, table): rows over parameters and unknowns. A point counts if all rows of must
hold there, and as often as table tells, an integer for each lot of rows of free that hold: entry number n is for
those whose places are the bits of n. Each sum of powers of z over the whole points of a cone at a corner is a ratio
of polynomials; those of all corners together are that of the block, cones with a line adding 0.
"""

from itertools import combinations

from pointtally.addings import has_fractions
from pointtally.amounts import above_row, round_down
from pointtally.corners import corner, row_at
from pointtally.forms import common_part, form_plus, form_sum, form_times
from pointtally.matrices import determinant, inverted, turned
from pointtally.shortparts import short_vector


def primitive(vector):
    """Return a vector divided by the greatest common part of its entries."""
    part = common_part(vector)
    return tuple([entry // part for entry in vector])


def unit_cones(heads, known):
    """Return (sign, walls, rays) of cones of the index 1 that add up to the cone of some heads, but for lines.

    rays[j] is the vector along which walls[j] grows by 1 and the other walls stay. known keeps what was found.
    """
    if heads not in known:
        told = []
        waiting = [(1, heads)]
        while waiting:
            sign, walls = waiting.pop()
            numbers, size = inverted(walls)
            if size == 1:
                told.append((sign, walls, turned(numbers, len(walls))))
            else:
                w, parts = short_vector(walls)
                for i, part in enumerate(parts):
                    if part != 0:
                        waiting.append((sign if part > 0 else -sign, (*walls[:i], w, *walls[i + 1:])))
        known[heads] = told
    return known[heads]


def _differences(table, place):
    """Return what a table tells with the row at a place less what it tells without."""
    step = 1 << place
    told = []
    for start in range(0, len(table), 2 * step):
        told += [table[n + step] - table[n] for n in range(start, start + step)]
    return told


def _bends(d, free, table, head_at):
    """Return pairs (places, table): at most d headed rows of free, and how the table bends along all of these."""
    found = [((), list(range(len(free))), table)]
    for place in range(len(free) - 1, -1, -1):
        if any(free[place][head_at:]):
            more = []
            for places, left, told in found:
                if len(places) < d:
                    bent = _differences(told, left.index(place))
                    if any(bent):
                        more.append(((place, *places), [i for i in left if i != place], bent))
            found = found + more
    return found


def _ways(k, rows, signs, table):
    """Return pairs (rows, number): where the rows hold, the table tells the number; 0 elsewhere.

    signs are forms; the rows of the table hold where these are from 0 on.
    """
    waiting, found = [(rows, table)], []
    while waiting:
        told, numbers = waiting.pop()
        if any(numbers) and has_fractions(k, told):
            half = len(numbers) // 2
            low, high = numbers[:half], numbers[half:]
            if half == 0:
                found.append((told, numbers[0]))
            elif low == high:
                waiting.append((told, low))
            else:
                form = signs[half.bit_length() - 1]
                waiting.append(((*told, form_plus(form_times(form, -1), -1)), low))
                waiting.append(((*told, form), high))
    return found


def _steps_below(walls, point):
    """Return the steps (D, form) that tell the greatest integers below the walls' values at a corner."""
    steps = []
    for wall in walls:
        form, ts = (0,) * len(point[0][0]), (0,) * len(point[0][1])
        for entry, (own, own_ts, _) in zip(wall, point):
            if entry != 0:
                form = form_sum(form, form_times(own, entry))
                ts = form_sum(ts, form_times(own_ts, entry))
        steps.append(round_down((form, ts, point[0][2]))[0])
    return tuple(steps)


def block_corners(block, known):
    """Return (rows, number, rays, steps) of each cone of the index 1 at a corner of a block.

    rows are forms over the parameters: where they hold, the cone counts that many times. Its points are the
    sums of n_j times ray j with n_j above what step j tells.
    """
    k, d, must, free, table = block
    hall = (k, d, (*must, *free))
    headed = [i for i, row in enumerate(must) if any(row[k + 1:])]
    fixed = tuple([row[:k + 1] for row in must if not any(row[k + 1:])])
    found = []
    if has_fractions(k, fixed):
        for places, left, bent in _bends(d, free, table, k + 1):
            own = tuple([len(must) + i for i in places])
            told = (fixed, headed, [len(must) + i for i in left], bent)
            for basis in combinations(headed, int(d - len(places))):
                found += _corner_cones(hall, (*basis, *own), told, known)
    return found


def _corner_cones(hall, basis, told, known):
    """Return (rows, number, rays, steps) of the cones at the corner of a basis, if it is one."""
    k, d, rows = hall
    fixed, headed, left, bent = told
    heads = tuple([rows[i][k + 1:] for i in basis])
    if determinant(heads) == 0:
        return []
    point = corner(hall, basis)
    size = point[0][2] if point else 1
    others = [above_row(row_at(hall, point, size, i)) for i in headed if i not in basis]
    signs = []
    for i in left:
        is_headed = any(rows[i][k + 1:])
        signs.append(above_row(row_at(hall, point, size, i)) if is_headed else rows[i][:k + 1])
    found = []
    for conditions, number in _ways(k, (*fixed, *others), signs, bent):
        for sign, walls, rays in unit_cones(tuple([primitive(head) for head in heads]), known):
            found.append((conditions, sign * number, rays, _steps_below(walls, point)))
    return found
