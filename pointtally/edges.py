"""Edges: the ways along which one row of a basis grows and the others stay."""

from pointtally.corners import bases, heads_of
from pointtally.forms import common_part
from pointtally.matrices import inverted, turned


def edges(hall, basis):
    """Return the tuple of the edges of a basis, one for each of its rows."""
    columns = turned(inverted(heads_of(hall, basis))[0], hall[1])
    told = []
    for column in columns:
        part = common_part(column)
        told.append(tuple([entry // part for entry in column]))
    return tuple(told)


def all_edges(hall):
    """Return the ascending tuple of the unlike edges of all bases."""
    found = {}
    for basis in bases(hall):
        for edge in edges(hall, basis):
            found[edge] = True
    return tuple(sorted(found))
