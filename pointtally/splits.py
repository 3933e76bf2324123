"""A formula as pieces apart from one another: its rows and divisibilities are decided one by one."""

from pointtally.formulas import FALSE, TRUE
from pointtally.forms import form_plus, form_times, lowered
from pointtally.grids import divided_grid, form_on
from pointtally.lessening import has_room, kept_pieces, room_piece
from pointtally.neighbours import neighbours_of
from pointtally.pieces import on_grid
from pointtally.shadows import less_tidied, made_apart, shadows, tidied_pieces


def _joined(word, parts):
    """Return an "and" or "or" of parts that are no "and" and "or" of nothing, in as few nodes as may be."""
    if len(parts) == 0:
        return (word,)
    return parts[0] if len(parts) == 1 else (word, *parts)


def _opposite_row(formula):
    """Return the row that holds where a row does not."""
    return ("row", form_plus(form_times(formula[1], -1), -1))


def _negated(formula):
    """Return the handled formula of the opposite meaning."""
    word = formula[0]
    if word == "row":
        return _opposite_row(formula)
    if word == "not":
        return formula[1]
    if word in ("and", "or"):
        return ("or" if word == "and" else "and", *[_negated(part) for part in formula[1:]])
    return ("not", formula)


def _gathered(word, parts):
    """Return the "and" or "or" of handled formulas, those of the same word taken in, each once."""
    ends, other = (FALSE, TRUE) if word == "and" else (TRUE, FALSE)
    found = []
    for part in parts:
        for inner in part[1:] if part[0] == word else (part,):
            if inner == ends:
                return ends
            if inner != other and inner not in found:
                found.append(inner)
    return _joined(word, found)


def handled(formula):
    """Return the formula of the same meaning with "not" ahead of divisibilities and "some" alone."""
    word = formula[0]
    if word == "row":
        row = lowered(formula[1])
        if any(row[1:]):
            return ("row", row)
        return TRUE if row[0] >= 0 else FALSE
    if word == "not":
        return _negated(handled(formula[1]))
    if word == "some":
        inner = handled(formula[1])
        return inner if inner in (TRUE, FALSE) else ("some", inner)
    if word == "divides":
        return formula
    return _gathered(word, [handled(part) for part in formula[1:]])


def decided(formula, atom, truth):
    """Return a handled formula with one row, divisibility or "some" decided."""
    if formula == atom:
        return TRUE if truth else FALSE
    if formula[0] == "not" and formula[1] == atom:
        return FALSE if truth else TRUE
    if formula[0] == "row" and atom[0] == "row" and formula == _opposite_row(atom):
        return FALSE if truth else TRUE
    if formula[0] in ("and", "or"):
        return _gathered(formula[0], [decided(part, atom, truth) for part in formula[1:]])
    return formula


def atoms_of(formula):
    """Return the rows, divisibilities and "some" of a handled formula."""
    if formula[0] in ("and", "or"):
        return [atom for part in formula[1:] for atom in atoms_of(part)]
    return [formula[1] if formula[0] == "not" else formula]


def chosen_atom(formula, outer):
    """Return the atom to decide next: one that must hold, else a row, if it may be of the outer letters alone.

    Divisibilities that may hold or not come last, as they leave the most parts.
    """
    may = atoms_of(formula)
    must = []
    if formula[0] == "and":
        must = [atom for part in formula[1:] if part[0] not in ("and", "or") for atom in atoms_of(part)]
    near = [atom for atom in may if _is_outer(atom, outer)]
    ways = ((must, "row"), (near, "row"), (must, "divides"), (may, "row"), (may, "some"), (may, "divides"))
    for atoms, kind in ways:
        for atom in atoms:
            if atom[0] == kind:
                return atom
    return TRUE


def _is_outer(atom, outer):
    """Tell whether a row or divisibility has no letter behind the outer ones."""
    return atom[0] != "some" and not any(atom[-1][outer + 1:])


def _with_row(piece, form):
    """Return a piece with one more row, told over the letters of points."""
    (k, d, rows), grid = piece
    row = lowered(form_on(grid, form))
    if row in rows:
        return piece
    return ((k, d, (*rows, row)), grid)


def _rests_by_primes(n):
    """Return pairs (n', rest): each number that n does not divide leaves just one of these rests by its n'."""
    told = []
    known, prime = 1, 2
    while known < n:
        if n // known % prime != 0:
            prime += 1
        else:
            told += [(known * prime, known * rest) for rest in range(1, prime)]
            known = known * prime
    return told


def _divided_parts(piece, atom, truth):
    """Return the parts of a piece at whose points a divisibility holds, or does not."""
    (k, d, _), _ = piece
    _, n, form = atom
    parts = []
    ways = [(n, 0)] if truth else _rests_by_primes(n)
    for size, rest in ways:
        grid = divided_grid(k + d, size, form_plus(form, -rest))
        if grid is not None:
            parts.append(on_grid(piece, grid))
    return kept_pieces(parts)


def _lifted(piece):
    """Return the piece over one letter more, which is free."""
    (k, d, rows), (table, s) = piece
    wide = [(*row, 0) for row in table] + [(*[0] * len(s), 1)]
    return ((k, d + 1, tuple([(*row, 0) for row in rows])), (tuple(wide), (*s, 0)))


def some_parts(piece, formula):
    """Return pieces apart with the points of a piece at which some number behind makes a formula hold."""
    (k, d, _), _ = piece
    lots = []
    for inner, more in split(_lifted(piece), formula, k + d):
        lots.append(shadows(inner, more + 1))
    return made_apart(lots)


def row_sides(piece, atom):
    """Return (parts where a row holds, parts where it does not); a row that tells nothing new is left out."""
    one, other = _with_row(piece, atom[1]), _with_row(piece, _opposite_row(atom)[1])
    if not has_room(other):
        return ([piece], [])
    return ([one], [other]) if has_room(one) else ([], [piece])


def _some_sides(piece, atom, both):
    """Return (parts where a "some" holds, parts where it does not); the latter only if both are asked for."""
    parts = some_parts(piece, atom[1])
    return (parts, less_tidied([piece], neighbours_of(parts)) if both else [])


def ways_on(piece, formula, outer):
    """Return pairs (part, formula): one atom of the formula is decided, in each way that leaves points."""
    atom = chosen_atom(formula, outer)
    lasting = [decided(formula, atom, truth) for truth in (True, False)]
    if atom[0] == "row":
        sides = row_sides(piece, atom)
    elif atom[0] == "some":
        sides = _some_sides(piece, atom, lasting[1] != FALSE)
    else:
        sides = [_divided_parts(piece, atom, truth) for truth in (True, False)]
    ways = []
    for parts, rest in zip(sides, lasting):
        if rest != FALSE:
            ways += [(part, rest) for part in parts]
    return ways


def split(piece, formula, outer):
    """Return pairs (part, count): apart, with the points of a piece at which a handled formula holds.

    Letters from number outer on are to fall away, and with them count more of each part, which stand for
    those behind "some". If outer is the number of letters, none are to fall away, and count is 0.
    """
    (k, d, _), _ = piece
    falls = outer < k + d
    waiting, done = [(piece, formula, 0)], []
    while waiting:
        part, rest, count = waiting.pop()
        if rest == TRUE:
            done.append((part, count))
        elif falls and rest[0] == "some":
            waiting.append((_lifted(part), rest[1], count + 1))
        elif rest != FALSE:
            waiting += [(*way, count) for way in ways_on(part, rest, outer)]
    return done


def split_pieces(k, d, formula):
    """Return the list of pieces, apart, with just the points at which a formula holds."""
    parts = split(room_piece(k, d), handled(formula), k + d)
    return tidied_pieces([part for part, _ in parts])
