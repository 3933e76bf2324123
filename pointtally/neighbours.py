"""Which of many pieces have grids that meet a grid, looked up by what their starts leave."""

from math import gcd

from pointtally.grids import grid_of
from pointtally.matrices import turned


def left_by(table, start):
    """Return what is left of a start less whole sums of the columns of a grid's table; alike for alike starts."""
    left = list(start)
    for i, row in enumerate(table):
        times = left[i] // row[i]
        if times != 0:
            left = [entry - times * line[i] for entry, line in zip(left, table)]
    return tuple(left)


def sums_table(one, other):
    """Return the table of a grid whose points are all whole sums of the columns of two grids' tables."""
    m = len(one)
    if m == 1:
        return ((gcd(one[0][0], other[0][0]),),)
    return grid_of((*turned(one, m), *turned(other, m)), (0,) * m)[0]


class Neighbours:
    """Keeps pieces by the tables of their grids.

    Two grids meet exactly if their starts differ by a whole sum of the columns of both tables, so that both
    starts leave the same by the table of all these sums.
    """

    def __init__(self):
        self.pieces = []
        self.places = {}
        self.known = {}

    def put(self, piece):
        """Take a piece in, behind all others."""
        place = len(self.pieces)
        self.pieces.append(piece)
        table, start = piece[1]
        self.places.setdefault(table, []).append(place)
        for both, left in list(self.known.get(table, {}).values()):
            left.setdefault(left_by(both, start), []).append(place)

    def told_for(self, table, own):
        """Return (table of all sums, places by what their starts leave) for the pieces with a table and one of own."""
        pairs = self.known.setdefault(table, {})
        if own not in pairs:
            both = sums_table(table, own)
            left = {}
            for place in self.places[table]:
                left.setdefault(left_by(both, self.pieces[place][1][1]), []).append(place)
            pairs[own] = (both, left)
        return pairs[own]

    def places_meeting(self, grid):
        """Return the ascending places of the pieces whose grids meet a grid."""
        own, start = grid
        found = []
        for table in list(self.places):
            both, left = self.told_for(table, own)
            found += left.get(left_by(both, start), [])
        return sorted(found)

    def meeting(self, grid):
        """Return the pieces whose grids meet a grid, in the sequence in which they were put."""
        return [self.pieces[place] for place in self.places_meeting(grid)]

    def parts_outside(self, piece, part_by):
        """Return the parts of a piece outside all pieces kept: it is parted by the first, the parts by the next one.

        part_by is a function of a piece and another one that returns the parts of the former outside the latter.
        """
        waiting, found = [(piece, self.places_meeting(piece[1]))], []
        while waiting:
            old, places = waiting.pop()
            if len(places) == 0:
                found.append(old)
            else:
                following = []
                for part in part_by(old, self.pieces[places[0]]):
                    if part[1] == old[1]:
                        following.append((part, places[1:]))
                    else:
                        near = self.places_meeting(part[1])
                        following.append((part, [place for place in near if place > places[0]]))
                # The first part waits on top, so that parts come in sequence.
                waiting += following[::-1]
        return found


def neighbours_of(pieces):
    """Return what keeps some pieces."""
    kept = Neighbours()
    for piece in pieces:
        kept.put(piece)
    return kept
