"""The tally of a hall: its paper, the parts that come of it, and what these add up to."""

from pointtally.addings import is_settled, settled
from pointtally.amounts import round_down
from pointtally.corners import bases, corner, corner_rows
from pointtally.cornerterms import number_of, terms_of
from pointtally.directions import direction, is_direction, uphill
from pointtally.edges import edges
from pointtally.errors import NotBounded, NotPaper
from pointtally.forms import form_sum, form_times, form_value, letter_form, word_of
from pointtally.grids import whole_grid
from pointtally.halls import conditions, hall_at
from pointtally.leaves import leaf_sum
from pointtally.matrices import inverted, turned
from pointtally.polys import lot_of
from pointtally.rays import has_ray
from pointtally.shadows import tidied_piece
from pointtally.tallies import tidied
from pointtally.trees import is_tree, leaves, tree_of, tree_rays


def _need_bounded(hall):
    """Raise NotBounded if the heads have a ray."""
    if has_ray(*hall):
        raise NotBounded()


def _basis_rows(hall, basis):
    """Return (corner, rows at which the basis is feasible)."""
    point = corner(hall, basis)
    return (point, (*corner_rows(hall, basis, point), *conditions(hall)))


def hall_paper(hall):
    """Return a paper of a hall."""
    _need_bounded(hall)
    k, d, _ = hall
    entries, vectors = [], {}
    for basis in bases(hall):
        told = settled(k, _basis_rows(hall, basis)[1])
        if told[0] != "factors":
            rays = edges(hall, basis)
            tree = tree_of(rays)
            told = ("tree", tree)
            for vector in tree_rays(rays, tree):
                vectors[vector] = True
        entries.append(("never", told[1]) if told[0] == "factors" else told)
    return (direction(d, list(vectors)), tuple(entries))


def _is_entry(hall, basis, value):
    """Tell of any value whether it may be the entry of a basis."""
    word = word_of(value, 2)
    if word == "never":
        return is_settled(hall[0], _basis_rows(hall, basis)[1], ("factors", value[1]))
    return word == "tree" and is_tree(edges(hall, basis), value[1])


def is_hall_paper(hall, value):
    """Tell of any value whether it is a paper of a hall."""
    d = hall[1]
    if has_ray(*hall) or not isinstance(value, tuple) or len(value) != 2 or not isinstance(value[1], tuple):
        return False
    lam, entries = value
    all_bases = bases(hall)
    if len(entries) != len(all_bases):
        return False
    for basis, entry in zip(all_bases, entries):
        if not _is_entry(hall, basis, entry):
            return False
        if entry[0] == "tree" and not is_direction(lam, d, tree_rays(edges(hall, basis), entry[1])):
            return False
    return is_direction(lam, d, ())


def leaf_parts(hall, paper):
    """Return the parts (rows, sign, rays, steps) of a paper, one for each leaf of its trees."""
    if not is_hall_paper(hall, paper):
        raise NotPaper(())
    return parts_by(hall, paper)


def parts_by(hall, paper, p=None):
    """Return the parts of what is known to be a paper; those alone whose rows hold at p if that is not None."""
    lam, entries = paper
    parts = []
    for basis, (word, tree) in zip(bases(hall), entries):
        if word == "tree":
            point, rows = _basis_rows(hall, basis)
            if p is None or all([form_value(row, p) >= 0 for row in rows]):
                for sign, rays in leaves(edges(hall, basis), tree):
                    turned_sign = sign if len(uphill(lam, rays)) % 2 == 0 else -sign
                    parts.append((rows, turned_sign, rays, _leaf_steps(hall, point, rays)))
    return tuple(parts)


def _leaf_steps(hall, point, rays):
    """Return the steps that tell the greatest integers below the coordinates of a corner by rays of the index 1."""
    steps = []
    for column in turned(inverted(rays)[0], len(rays)):
        form, ts = (0,) * (hall[0] + 1), (0,) * len(hall[2])
        for factor, (own, own_ts, _) in zip(column, point):
            form = form_sum(form, form_times(own, factor))
            ts = form_sum(ts, form_times(own_ts, factor))
        steps.append(round_down((form, ts, point[0][2]))[0])
    return tuple(steps)


def tally_by(hall, paper, weight=None):
    """Return the tally that a paper tells, one term for each of its parts."""
    parts = leaf_parts(hall, paper)
    return terms_by(hall, paper[0], parts, weight)


def terms_by(hall, lam, parts, weight):
    """Return the tally of the parts that a paper with a direction tells."""
    k = hall[0]
    own = tuple([(1, letter_form(i, k)) for i in range(k)])
    told = []
    for rows, sign, rays, steps in parts:
        poly = leaf_sum(k, rays, lam, weight)
        told.append((rows, (), (*own, *steps), tuple([((sign * a, b), exponents) for (a, b), exponents in poly])))
    return tuple(told)


def _item(hall, weight):
    """Return the item that counts the points of a hall, None if it has none for what its rows tell at once."""
    k, d, _ = hall
    piece = tidied_piece((hall, whole_grid(k + d)))
    if piece is None:
        return None
    return ((k, d, piece[0][2], (), [1]), piece[1], weight)


def hall_tally(hall, weight=None):
    """Return a tally of the sum of the weight over the points of a hall, or of their number."""
    _need_bounded(hall)
    item = _item(hall, None if weight is None else lot_of(weight))
    return () if item is None else tidied(terms_of(hall[0], [item]))


def hall_count(hall, p):
    """Return the number of the points of a hall at p."""
    _need_bounded(hall)
    item = _item(hall_at(hall, p), None)
    return 0 if item is None else number_of([item])
