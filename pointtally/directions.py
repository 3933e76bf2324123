"""Directions, and cones that are turned by them."""

from pointtally.corners import corners_at
from pointtally.edges import all_edges, edges
from pointtally.errors import NotBounded, NotFit
from pointtally.forms import are_numbers, form_value, product_sum
from pointtally.rays import has_ray


def is_direction(value, d, vectors):
    """Tell of any value whether it is a direction of some vectors."""
    if not are_numbers(value, d):
        return False
    for vector in vectors:
        if product_sum(value, vector) == 0:
            return False
    return True


def direction(d, vectors):
    """Return the direction (1, M, M * M, ..) with the least M from 1."""
    base = 0
    while True:
        base += 1
        lam = [1] * d
        for i in range(1, d):
            lam[i] = lam[i - 1] * base
        if is_direction(tuple(lam), d, vectors):
            return tuple(lam)


def uphill(lam, vectors):
    """Return the ascending tuple of the places of the vectors that are uphill."""
    return tuple([i for i, vector in enumerate(vectors) if product_sum(lam, vector) > 0])


def _need_direction(hall, lam):
    """Raise NotBounded for a hall with a ray, and NotFit for any value that is no direction of its edges."""
    k, d, rows = hall
    if has_ray(k, d, rows):
        raise NotBounded()
    if not is_direction(lam, d, all_edges(hall)):
        raise NotFit()


def _turned_sign(hall, basis, t, lam):
    """Return the sign of the turned cone of a basis if it has the point of t, otherwise 0."""
    sign = 1
    for i, edge in zip(basis, edges(hall, basis)):
        # The multiple of an edge has the sign of its row, loosened, so that 0 counts as above.
        above = form_value(hall[2][i], t) >= 0
        rises = product_sum(lam, edge) > 0
        if above == rises:
            return 0
        if rises:
            sign = -sign
    return sign


def cover(hall, p, x, lam):
    """Return the sum of the signs of the turned cones, of bases feasible at p, that have x."""
    _need_direction(hall, lam)
    return sum([_turned_sign(hall, basis, (*p, *x), lam) for basis in corners_at(hall, p)])


def highest(hall, p, lam):
    """Return the basis feasible at p of which no edge is uphill, None if no basis is feasible."""
    _need_direction(hall, lam)
    for basis in corners_at(hall, p):
        if len(uphill(lam, edges(hall, basis))) == 0:
            return basis
    return None


def uphill_counts(hall, p, lam):
    """Return how many bases feasible at p have 0, 1, .., d uphill edges."""
    _need_direction(hall, lam)
    counts = [0] * (hall[1] + 1)
    for basis in corners_at(hall, p):
        counts[len(uphill(lam, edges(hall, basis)))] += 1
    return tuple(counts)
