"""Lattices with short vectors: whole rows are added to one another until they are short."""


def _nearest(a, b):
    """Return an integer that is nearest to a / b, b above 0."""
    return (2 * a + b) // (2 * b)


class Reducer:
    """Reduces the unit rows as a gram table measures them.

    parts[i] is the determinant of the first i rows' measures; leads[i][j] is what row i has along row j,
    times parts[j + 1]. All of it stays whole.
    """

    def __init__(self, gram):
        m = len(gram)
        self.rows = [[int(i == j) for j in range(m)] for i in range(m)]
        self.parts = [1]
        self.leads = []
        for i in range(m):
            self.leads.append(self.measured(gram[i][:i + 1]))
            self.parts.append(self.leads[i].pop())

    def measured(self, products):
        """Return what a row has along the rows ahead and itself, by its products with these."""
        told = []
        for j, product in enumerate(products):
            own = self.leads[j] if j < len(self.leads) else told
            for i in range(j):
                product = (self.parts[i + 1] * product - told[i] * own[i]) // self.parts[i]
            told.append(product)
        return told

    def shorten(self, i, j):
        """Take from row i the multiple of row j that leaves the least."""
        times = _nearest(self.leads[i][j], self.parts[j + 1])
        if times != 0:
            self.rows[i] = [a - times * b for a, b in zip(self.rows[i], self.rows[j])]
            self.leads[i][j] -= times * self.parts[j + 1]
            for place in range(j):
                self.leads[i][place] -= times * self.leads[j][place]

    def is_ordered(self, i):
        """Tell whether row i is not much shorter than the row ahead, each less what the rows ahead have."""
        lead, part = self.leads[i][i - 1], self.parts[i]
        return 4 * (self.parts[i + 1] * self.parts[i - 1] + lead * lead) >= 3 * part * part

    def swap(self, i):
        """Let row i and the row ahead change places."""
        self.rows[i], self.rows[i - 1] = self.rows[i - 1], self.rows[i]
        lead = self.leads[i][i - 1]
        above = self.leads[i][:i - 1]
        self.leads[i] = [*self.leads[i - 1], lead]
        self.leads[i - 1] = above
        part = (self.parts[i - 1] * self.parts[i + 1] + lead * lead) // self.parts[i]
        for row in self.leads[i + 1:]:
            old = row[i]
            row[i] = (self.parts[i + 1] * row[i - 1] - lead * old) // self.parts[i]
            row[i - 1] = (part * old + lead * row[i]) // self.parts[i + 1]
        self.parts[i] = part

    def run(self):
        """Reduce."""
        i = 1
        while i < len(self.rows):
            self.shorten(i, i - 1)
            if self.is_ordered(i):
                for j in range(i - 2, -1, -1):
                    self.shorten(i, j)
                i += 1
            else:
                self.swap(i)
                i = max(1, i - 1)


def products_of(m, heads):
    """Return the table of the sums, over pairs (weight, head of m entries), of the weight times two of its entries."""
    gram = [[0] * m for _ in range(m)]
    for weight, head in heads:
        for i, entry in enumerate(head):
            if entry != 0:
                gram[i] = [old + weight * entry * other for old, other in zip(gram[i], head)]
    return gram


def reduced_rows(gram):
    """Return whole rows that make up all whole rows, short ones first, as a table of products measures them."""
    reducer = Reducer(gram)
    reducer.run()
    return tuple([tuple(row) for row in reducer.rows])
