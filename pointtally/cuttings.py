"""Terms cut by their rows: cells in each of which each term holds throughout or nowhere."""

from math import lcm

from pointtally.cells import ALWAYS, NEVER, cut, is_beyond, opposite, quarter_cells, side_of
from pointtally.classpolys import ClassSum, ToldTerms, short_spread


def _packed(numbers, width):
    """Return one integer that has the numbers, each in so many bits; sums of it are 0 where all sums are."""
    while len(numbers) > 1:
        if len(numbers) % 2 == 1:
            numbers = [*numbers, 0]
        numbers = [low + (high << width) for low, high in zip(numbers[::2], numbers[1::2])]
        width = 2 * width
    return numbers[0] if numbers else 0


def _unpacked(number, width, count):
    """Return the list of the count numbers that one integer has, each in so many bits."""
    if count == 1:
        return [number]
    half = count // 2
    bits = width * half
    low = number & ((1 << bits) - 1)
    if low >> (bits - 1) == 1:
        low -= 1 << bits
    return _unpacked(low, width, half) + _unpacked((number - low) >> bits, width, count - half)


class Packing:
    """Tells settled spreads as dicts of integers by lattices: sums of these are 0 exactly if theirs are 0."""

    def __init__(self, lattices, told):
        self.lattices = lattices
        self.sizes, self.exponents = {}, {}
        for spreads in told:
            for i, (by, lines) in spreads.items():
                self.sizes[i] = lcm(self.sizes.get(i, 1), by)
                known = self.exponents.setdefault(i, {})
                for at in lines:
                    known[at] = True
        great = {}
        for spreads in told:
            for i, (by, lines) in spreads.items():
                top = max([abs(entry) for line in list(lines.values()) for entry in line])
                great[i] = great.get(i, 0) + top * (self.sizes[i] // by)
        self.widths = {i: number.bit_length() + 2 for i, number in great.items()}

    def packed(self, spreads):
        """Return the dict of some spreads."""
        own = {}
        for i, (by, lines) in spreads.items():
            none, numbers = [0] * self.lattices.sizes[i], []
            for at in self.exponents[i]:
                numbers += [entry * (self.sizes[i] // by) for entry in lines.get(at, none)]
            own[i] = _packed(numbers, self.widths[i])
        return own

    def spreads(self, packed):
        """Return the spreads of a dict."""
        told = {}
        for i in sorted(packed):
            size = self.lattices.sizes[i]
            numbers = _unpacked(packed[i], self.widths[i], size * len(self.exponents[i]))
            lines = {at: numbers[j * size:(j + 1) * size] for j, at in enumerate(self.exponents[i])}
            told[i] = short_spread((self.sizes[i], lines))
        return told


def packed_sum(one, other):
    """Return the sum of two packed spreads."""
    total = dict(one)
    for i, number in other.items():
        total[i] = total.get(i, 0) + number
        if total[i] == 0:
            del total[i]
    return total


class Cutting:
    """Goes through the cells of whole tuples, in each of which each term holds throughout or nowhere.

    Terms under the same rows are one lot; what is left of the lots in a cell, packed, stands by the bits of the rows
    that are still open.
    """

    def __init__(self, k, terms):
        lots, rows = {}, {}
        for i, term in enumerate(terms):
            lots.setdefault(term[0], []).append(i)
            for row in term[0]:
                rows.setdefault(row, len(rows))
        self.forms = list(rows)
        classes = ToldTerms(k, terms)
        told = [classes.settled(places) for places in list(lots.values())]
        self.lattices = classes.lattices
        self.packing = Packing(self.lattices, told)
        first = {}
        for spreads, own in zip(told, lots):
            bits = 0
            for row in own:
                bits |= 1 << rows[row]
            self.put(first, bits, self.packing.packed(spreads))
        self.waiting = [(signs, cell, first) for signs, cell in quarter_cells(k)[::-1]]

    def put(self, lots, bits, lot):
        """Take a lot in among others, by the bits of its open rows."""
        lots[bits] = packed_sum(lots[bits], lot) if bits in lots else lot

    def settled(self, cell, lots):
        """Return the lots without rows that hold in a cell, and without those that hold nowhere or add up to 0."""
        every = 0
        for bits in lots:
            every |= bits
        always, never = 0, 0
        for i, row in enumerate(self.forms):
            if every >> i & 1 == 1:
                side = side_of(cell, row)
                always |= (1 << i) if side == ALWAYS else 0
                never |= (1 << i) if side == NEVER else 0
        told = {}
        for bits, lot in lots.items():
            if bits & never == 0:
                self.put(told, bits & ~always, lot)
        return {bits: lot for bits, lot in told.items() if lot}

    def open_row(self, lots):
        """Return the place of the row that is open in most lots."""
        counts = [0] * len(self.forms)
        for bits in lots:
            while bits > 0:
                top = bits.bit_length() - 1
                counts[top] += 1
                bits -= 1 << top
        return counts.index(max(counts))

    def next_cell(self, most=None):
        """Return (signs, cell, class sum of the terms there) of the next cell where that is not 0 by its writing.

        None if there is none. Cells whose points all have absolute values of more than most together are left out.
        """
        while self.waiting:
            signs, cell, lots = self.waiting.pop()
            is_far = most is not None and is_beyond(signs, cell, most)
            told = {} if is_far else self.settled(cell, lots)
            if len(told) == 1 and 0 in told:
                return (signs, cell, ClassSum(self.lattices, self.packing.spreads(told[0])))
            if told:
                row = self.forms[self.open_row(told)]
                for side in (opposite(row), row):
                    part = cut(cell, side)
                    if part is not None:
                        self.waiting.append((signs, part, told))
        return None
