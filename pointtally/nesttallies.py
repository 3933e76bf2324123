"""What holds of a nest's rounds, cells and meetings for all sizes."""

from pointtally.counting import tally_of
from pointtally.errors import NotFit
from pointtally.forms import form_plus
from pointtally.formulas import FALSE
from pointtally.halls import MOST_PARAMETERS
from pointtally.nestcells import any_of, cells_of, indexes_of, lines_of
from pointtally.nestforms import counters_of, difference, round_parts, statements_in, unit_forms
from pointtally.nestmeets import Pair, all_of, touched_about
from pointtally.sets import first_entries, first_parting, has_point, pieces_of
from pointtally.tallies import scaled, tidied

MOST_COUNTERS = 4
MOST_TURNED = 2


def rounds_formula(nest, s):
    """Return a formula over the sizes and the counters around a statement that holds at its rounds."""
    _, k, _ = nest
    _, chain = statements_in(nest)[s]
    n = k + counters_of(chain)
    return ("and", *round_parts(k, chain, unit_forms(n), n))


def rounds_tally(nest, s):
    """Return a tally of the number of rounds of a statement."""
    _, chain = statements_in(nest)[s]
    return tally_of(nest[1], counters_of(chain), rounds_formula(nest, s))


def cost_tally(nest, prices):
    """Return a tally of the sum of the prices of all rounds."""
    told = []
    for s, price in enumerate(prices):
        if price != 0:
            told += scaled(rounds_tally(nest, s), (price, 1))
    return tidied(tuple(told))


def cells_formula(nest, array, kind):
    """Return a formula over the sizes and the indexes that holds at the cells that are touched so."""
    told = []
    for statement in statements_in(nest):
        told += cells_of(nest[1], statement, array, kind)
    return any_of(told)


def _tally_over(nest, array, formula):
    """Return a tally of the number of indexes of an array at which a formula over sizes and indexes holds."""
    if formula == FALSE:
        return ()
    return tally_of(nest[1], indexes_of(statements_in(nest), array), formula)


def cells_tally(nest, array, kind):
    """Return a tally of the number of unlike cells that are touched so."""
    return _tally_over(nest, array, cells_formula(nest, array, kind))


def lines_tally(nest, array, kind, w):
    """Return a tally of the number of unlike lines of w cells that are touched so."""
    told = []
    for statement in statements_in(nest):
        told += lines_of(nest[1], statement, array, kind, w)
    return _tally_over(nest, array, any_of(told))


def both_tally(nest, array, s, t):
    """Return a tally of the number of cells that two statements both touch."""
    statements = statements_in(nest)
    one, other = [any_of(cells_of(nest[1], statements[i], array, "any")) for i in (s, t)]
    if FALSE in (one, other):
        return ()
    return _tally_over(nest, array, one if one == other else ("and", one, other))


def meets_formula(nest, array, s, t, kinds):
    """Return a formula over the sizes and the counters of both that holds where a round of s meets one of t."""
    pair = Pair(nest, s, t)
    ways = [all_of(equals, rows) for equals, rows in pair.ways()]
    cells = [all_of(equals, []) for equals in pair.same_cells(array, kinds)]
    return ("and", *pair.rounds(unit_forms(pair.n), pair.n), any_of(ways), any_of(cells))


def meets_tally(nest, array, s, t, kinds):
    """Return a tally of the number of pairs of rounds that meet."""
    pair = Pair(nest, s, t)
    if pair.n - pair.k > MOST_COUNTERS:
        raise NotFit()
    cells = pair.same_cells(array, kinds)
    told = []
    for equals, rows in pair.ways():
        d, formula = pair.formula(equals, rows, cells)
        told += tally_of(pair.k, d, formula)
    return tidied(tuple(told))


def _most_loops(body):
    """Return how many loops of a body stand within one another at most."""
    most = 0
    for part in body:
        if part[0] != "do":
            most = max(most, int(part[0] == "loop") + _most_loops(part[-1]))
    return most


def _need_turnable(nest, depth):
    """Raise NotFit unless one loop stands at a depth and around it, and no more than two stand within one another."""
    body = nest[2]
    if _most_loops(body) > MOST_TURNED:
        raise NotFit()
    for _ in range(depth + 1):
        if len(body) != 1 or body[0][0] != "loop":
            raise NotFit()
        body = body[0][-1]


def can_turn(nest, depth):
    """Return None if the loop at a depth may run backward, otherwise the first sizes at which it may not."""
    _need_turnable(nest, depth)
    many, found = len(statements_in(nest)), []
    for s in range(many):
        for t in range(many):
            pair = Pair(nest, s, t)
            one, other = pair.counters
            equals = [difference(one[i], other[i]) for i in range(depth)]
            rows = [form_plus(difference(other[depth], one[depth]), -1)]
            for cell in pair.turning_cells():
                d, formula = pair.formula(equals, rows, [cell])
                found += [piece for piece in pieces_of(pair.k, d, formula) if has_point((piece,))]
    return first_entries(found, nest[1]) if found else None


def live_tally(nest, array, s):
    """Return a tally of the number of cells that are alive at a round of a statement, over its sizes and counters."""
    statements = statements_in(nest)
    k = nest[1] + counters_of(statements[s][1])
    if k > MOST_PARAMETERS:
        raise NotFit()
    ahead, behind = [], []
    for t in range(len(statements)):
        ahead += touched_about(nest[1], statements, (s, t), array, False)
        behind += touched_about(nest[1], statements, (s, t), array, True)
    m = indexes_of(statements, array)
    one, other = any_of(ahead), any_of(behind)
    if FALSE in (one, other):
        return ()
    there = round_parts(nest[1], statements[s][1], unit_forms(k + m), k + m)
    return tally_of(k, m, ("and", *there, one, other))


def touch_parting(one, other, array, kind):
    """Return the first point, sizes and then indexes, at which just one of two nests touches an array so, or None."""
    many = [indexes_of(statements_in(nest), array) for nest in (one, other)]
    if one[1] != other[1] or (0 not in many and many[0] != many[1]):
        raise NotFit()
    f, g = cells_formula(one, array, kind), cells_formula(other, array, kind)
    return first_parting(one[1] + max(many), f, g)


def touch_alike(one, other, array, kind):
    """Tell whether two nests touch the same cells of an array so, whatever the sizes are."""
    return touch_parting(one, other, array, kind) is None
