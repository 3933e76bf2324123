"""A formula as blocks on grids whose points, counted as the blocks tell, add up to the points of the formula.

What is counted is a MIX, a list of pairs (number, formula): each point counts the numbers of those formulas that
hold there. Unlike pieces, blocks may overlap, one taking away what another one counts too often; so they are few.
"""

from pointtally.formulas import FALSE
from pointtally.forms import form_plus, form_times, lowered
from pointtally.grids import divided_grid, form_on, grid_forms
from pointtally.lessening import has_room, room_piece
from pointtally.pieces import on_grid
from pointtally.polys import form_lot, put_lots
from pointtally.shadows import tidied_piece, tidied_pieces
from pointtally.splits import atoms_of, decided, handled, row_sides, some_parts, split

MOST_FREE = 12


def _same_formulas_joined(mix):
    """Return the mix with each formula once, without those that count nothing."""
    found = []
    for number, formula in mix:
        places = [i for i, (_, other) in enumerate(found) if other == formula]
        if places:
            found[places[0]] = (found[places[0]][0] + number, formula)
        else:
            found.append((number, formula))
    return [(number, formula) for number, formula in found if number != 0 and formula != FALSE]


def _decided_mix(mix, atom, truth):
    """Return the mix with an atom decided."""
    return _same_formulas_joined([(number, decided(formula, atom, truth)) for number, formula in mix])


def _mix_atoms(mix, kind):
    """Return the unlike atoms of a kind in a mix."""
    found = []
    for _, formula in mix:
        for atom in atoms_of(formula):
            if atom[0] == kind and atom not in found:
                found.append(atom)
    return found


def _divides_always(grid, atom):
    """Return True or False if a divisibility holds at all points of a grid or at none, otherwise None."""
    n = atom[1]
    form = form_on(grid, atom[2])
    if divided_grid(len(grid[1]), n, form) is None:
        return False
    return True if not any([entry % n for entry in form]) else None


def _settled_mix(piece, mix):
    """Return the mix with each atom decided that can be seen to hold at all points of the piece, or at none."""
    for atom in _mix_atoms(mix, "divides"):
        truth = _divides_always(piece[1], atom)
        if truth is not None:
            mix = _decided_mix(mix, atom, truth)
    for atom in _mix_atoms(mix, "row"):
        holding, failing = row_sides(piece, atom)
        if len(holding) == 0 or len(failing) == 0:
            mix = _decided_mix(mix, atom, len(failing) == 0)
    return mix


def _musts(mix):
    """Return the rows and divisibilities without which no formula of a mix holds, as far as can be seen at once."""
    if len(mix) != 1:
        return []
    formula = mix[0][1]
    parts = formula[1:] if formula[0] == "and" else (formula,)
    return [part for part in parts if part[0] in ("row", "divides")]


def _held(piece, atom):
    """Return the piece where a row or divisibility holds, None if it has no points there."""
    if atom[0] == "row":
        holding = row_sides(piece, atom)[0]
        return holding[0] if holding else None
    return _on_divided(piece, atom)


def _on_divided(piece, atom):
    """Return the piece where a divisibility holds, None if it has no points there."""
    grid = divided_grid(len(piece[1][1]), atom[1], atom[2])
    told = None if grid is None else on_grid(piece, grid)
    return told if told is not None and has_room(told) else None


def _expanded(piece, mix):
    """Return pairs (piece, mix) with rows alone in the mixes that add up to a mix on a piece."""
    waiting, found = [(piece, mix)], []
    while waiting:
        part, told = waiting.pop()
        musts = _musts(told)
        somes, divisions = _mix_atoms(told, "some"), _mix_atoms(told, "divides")
        if musts:
            inner = _held(part, musts[0])
            if inner is not None:
                waiting.append((inner, _settled_mix(inner, _decided_mix(told, musts[0], True))))
        elif somes or divisions:
            atom = (somes + divisions)[0]
            waiting += _developed(part, told, atom)
        elif told:
            found.append((part, told))
    return found


def _developed(piece, mix, atom):
    """Return pairs (piece, mix): the mix without an atom, and what the atom adds where it holds."""
    without = _decided_mix(mix, atom, False)
    more = _decided_mix(mix, atom, True) + [(-number, formula) for number, formula in without]
    more = _same_formulas_joined(more)
    if atom[0] == "some":
        parts = some_parts(piece, atom[1]) if more else []
    else:
        parts = tidied_pieces([part for part in (_on_divided(piece, atom),) if part is not None])
    told = [(part, _settled_mix(part, more)) for part in parts]
    return told + ([(piece, without)] if without else [])


def _truth_bits(formula, places, bits):
    """Tell whether a formula holds where the rows in these places hold as the bits tell."""
    word = formula[0]
    if word == "row":
        place, sign = places[formula[1]]
        return (bits >> place) % 2 == sign
    for inner in formula[1:]:
        if _truth_bits(inner, places, bits) != (word == "and"):
            return word == "or"
    return word == "and"


def _block_of(piece, mix):
    """Return the blocks with their grids that count a mix with rows alone on a piece."""
    (k, d, rows), grid = piece
    free, places = [], {}
    for _, form in _mix_atoms(mix, "row"):
        row = lowered(form_on(grid, form))
        other = form_plus(form_times(row, -1), -1)
        if row not in free and other not in free:
            free.append(row)
        places[form] = (free.index(row), 1) if row in free else (free.index(other), 0)
    if len(free) > MOST_FREE:
        return _split_blocks(piece, mix)
    table = []
    for bits in range(1 << len(free)):
        table.append(sum([number for number, formula in mix if _truth_bits(formula, places, bits)]))
    return [((k, d, rows, tuple(free), table), grid)]


def _split_blocks(piece, mix):
    """Return blocks with their grids that count a mix on a piece, as pieces apart from one another."""
    return [((*hall, (), [number]), grid) for number, (hall, grid) in _split_mix(piece, mix)]


def _split_mix(piece, mix):
    """Return pairs (number, piece) that count a mix on a piece, for each formula as pieces apart from one another."""
    k, d, _ = piece[0]
    found = []
    for number, formula in mix:
        for part in tidied_pieces([part for part, _ in split(piece, formula, k + d)]):
            found.append((number, part))
    return found


def counted_pieces(k, d, formula):
    """Return pairs (number, piece): each point of the formula is in pieces whose numbers add up to 1, others to 0."""
    told = []
    for piece, mix in _expanded(room_piece(k, d), [(1, handled(formula))]):
        told += _split_mix(piece, mix)
    return told


def items_of(k, d, formula, weight):
    """Return items that count the points of a formula, with the weight, a lot over points or None."""
    told = []
    for piece, mix in _expanded(room_piece(k, d), [(1, handled(formula))]):
        short = tidied_piece(piece)
        if short is not None:
            for block, grid in _block_of(short, _settled_mix(short, mix)):
                told.append((block, grid, led_weight(weight, grid)))
    return told


def led_weight(weight, grid):
    """Return the lot over a grid's letters that a lot over points is there; None stays."""
    if weight is None:
        return None
    return put_lots(weight, [form_lot(form) for form in grid_forms(grid)], len(grid[1]))
