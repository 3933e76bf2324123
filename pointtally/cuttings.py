"""Terms cut by their rows: cells in each of which each term holds throughout or nowhere."""

from math import lcm

from pointtally.cells import ALWAYS, NEVER, cut, is_beyond, opposite, quarter_cells, side_of
from pointtally.classpolys import ClassSum, joined_spreads, settled_spreads, told_terms


def _packed(numbers, width):
    """Return one integer that has the numbers, each in so many bits; sums of it are 0 where all sums are."""
    while len(numbers) > 1:
        if len(numbers) % 2 == 1:
            numbers = [*numbers, 0]
        numbers = [low + (high << width) for low, high in zip(numbers[::2], numbers[1::2])]
        width = 2 * width
    return numbers[0] if numbers else 0


def packed_spreads(lattices, told):
    """Return for each of some settled spreads a dict of integers by lattices: sums are 0 exactly if theirs are 0."""
    sizes, great, exponents = {}, {}, {}
    for spreads in told:
        for i, (by, lines) in spreads.items():
            sizes[i] = lcm(sizes.get(i, 1), by)
            known = exponents.setdefault(i, {})
            for at in lines:
                known[at] = True
    for spreads in told:
        for i, (by, lines) in spreads.items():
            top = max([abs(entry) for line in list(lines.values()) for entry in line])
            great[i] = great.get(i, 0) + top * (sizes[i] // by)
    packed = []
    for spreads in told:
        own = {}
        for i, (by, lines) in spreads.items():
            none, numbers = [0] * lattices.sizes[i], []
            for at in exponents[i]:
                numbers += [entry * (sizes[i] // by) for entry in lines.get(at, none)]
            own[i] = _packed(numbers, great[i].bit_length() + 2)
        packed.append(own)
    return packed


def packed_sum(one, other):
    """Return the sum of two packed spreads."""
    total = dict(one)
    for i, number in other.items():
        total[i] = total.get(i, 0) + number
        if total[i] == 0:
            del total[i]
    return total


class Cutting:
    """Goes through the cells of whole tuples, in each of which each term holds throughout or nowhere.

    Terms under the same rows are one lot; what is left of the lots in a cell stands by the bits of the rows that are
    still open: (packed sum of the lots, their numbers).
    """

    def __init__(self, k, terms):
        lots, rows = {}, {}
        for i, term in enumerate(terms):
            lots.setdefault(term[0], []).append(i)
            for row in term[0]:
                rows.setdefault(row, len(rows))
        self.forms = list(rows)
        self.lattices, parts = told_terms(k, terms)
        self.told = []
        for places in list(lots.values()):
            self.told.append(settled_spreads(self.lattices, [part for i in places for part in parts[i]]))
        first = {}
        for place, (packed, own) in enumerate(zip(packed_spreads(self.lattices, self.told), lots)):
            bits = 0
            for row in own:
                bits |= 1 << rows[row]
            self.put(first, bits, (packed, (place,)))
        self.waiting = [(signs, cell, first) for signs, cell in quarter_cells(k)[::-1]]

    def put(self, lots, bits, lot):
        """Take a lot in among others, by the bits of its open rows."""
        if bits in lots:
            old, places = lots[bits]
            lot = (packed_sum(old, lot[0]), places + lot[1])
        lots[bits] = lot

    def settled(self, cell, lots):
        """Return the lots without rows that hold in a cell, and without those that hold nowhere or add up to 0."""
        every = 0
        for bits in lots:
            every |= bits
        always, never = 0, 0
        for i, row in enumerate(self.forms):
            if every >> i & 1 == 1:
                side = side_of(cell, row)
                always |= (1 << i) if side == ALWAYS else 0
                never |= (1 << i) if side == NEVER else 0
        told = {}
        for bits, lot in lots.items():
            if bits & never == 0:
                self.put(told, bits & ~always, lot)
        return {bits: lot for bits, lot in told.items() if lot[0]}

    def open_row(self, lots):
        """Return the place of the row that is open in most lots."""
        counts = [0] * len(self.forms)
        for bits in lots:
            while bits > 0:
                top = bits.bit_length() - 1
                counts[top] += 1
                bits -= 1 << top
        return counts.index(max(counts))

    def class_sum(self, places):
        """Return the class sum of some lots."""
        return ClassSum(self.lattices, joined_spreads([self.told[place] for place in places]))

    def next_cell(self, most=None):
        """Return (signs, cell, class sum of the terms there) of the next cell where that is not 0 by its writing.

        None if there is none. Cells whose points all have absolute values of more than most together are left out.
        """
        while self.waiting:
            signs, cell, lots = self.waiting.pop()
            is_far = most is not None and is_beyond(signs, cell, most)
            told = {} if is_far else self.settled(cell, lots)
            if len(told) == 1 and 0 in told:
                return (signs, cell, self.class_sum(told[0][1]))
            if told:
                row = self.forms[self.open_row(told)]
                for side in (opposite(row), row):
                    part = cut(cell, side)
                    if part is not None:
                        self.waiting.append((signs, part, told))
        return None
