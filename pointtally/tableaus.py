"""Systems of rows solved by turns: each turn lets a letter or a row take the place of another one."""

from pointtally.forms import common_part
from pointtally.fractions import fraction


def _least_of(entries, places):
    """Return the place of the least entry among places, -1 if there are none.

    Always taking the least keeps the turns from going round in a circle.
    """
    found = -1
    for place in places:
        if found < 0 or entries[place] < entries[found]:
            found = place
    return found


class Tableau:
    """What rows and a form are over the entries that are left free.

    Entries are numbered: letters first, then the rows' values. The entry held[i], taken self.by times, is
    lines[i][0] plus the sum of lines[i][j + 1] times the entry free[j]; aim tells the form likewise. What
    stands in lines are determinants of parts of the rows, so that dividing by self.by leaves no rest.
    """

    def __init__(self, m, rows, f):
        self.m = m
        self.held = [m + i for i in range(len(rows))]
        self.free = list(range(m))
        self.lines = [list(row) for row in rows]
        self.aim = list(f)
        self.by = 1

    def is_row(self, entry):
        """Tell whether an entry is a row's value, which is from 0 on, and no letter."""
        return entry >= self.m

    def turned_line(self, line, lead, place):
        """Return what a line becomes when the entry at a place is told by lead."""
        sign = 1 if lead[place] > 0 else -1
        pivot, factor = sign * lead[place], sign * line[place]
        if factor == 0:
            return line if pivot == self.by else [pivot * a // self.by for a in line]
        if self.by == 1:
            told = [pivot * a - factor * b for a, b in zip(line, lead)]
        else:
            told = [(pivot * a - factor * b) // self.by for a, b in zip(line, lead)]
        told[place] = factor
        return told

    def turn(self, i, j):
        """Let held[i] and free[j] change places."""
        lead, place = self.lines[i], j + 1
        pivot = lead[place]
        self.aim = self.turned_line(self.aim, lead, place)
        self.lines = [self.turned_line(line, lead, place) for line in self.lines]
        sign = 1 if pivot > 0 else -1
        told = [-sign * entry for entry in lead]
        told[place] = sign * self.by
        self.lines[i] = told
        self.by = abs(pivot)
        self.held[i], self.free[j] = self.free[j], self.held[i]

    def hold_letters(self):
        """Make each letter that some row holds one of the held entries."""
        for j in range(self.m):
            places = [i for i, line in enumerate(self.lines) if self.is_row(self.held[i]) and line[j + 1] != 0]
            if places:
                self.turn(places[0], j)

    def row_with(self, place):
        """Return the number of the held row that has the least entry other than 0 at a place, -1 if none has one."""
        found, least = -1, 0
        for i, line in enumerate(self.lines):
            size = abs(line[place])
            if size > 0 and (found < 0 or size < least):
                found, least = i, size
        return found

    def drop_letters(self):
        """Hold each letter that some row holds, and leave it out: turns are faster without, but points are lost."""
        for j in range(self.m):
            i = self.row_with(j + 1)
            if i >= 0:
                lead = self.lines.pop(i)
                self.free[j] = self.held.pop(i)
                self.aim = self.turned_line(self.aim, lead, j + 1)
                self.lines = [self.turned_line(line, lead, j + 1) for line in self.lines]
                self.by = abs(lead[j + 1])

    def aim_below(self, row):
        """Take the value of a row, which is held or free, with its sign turned as the form."""
        if row in self.held:
            self.aim = [-entry for entry in self.lines[self.held.index(row)]]
        else:
            self.aim = [0] * (len(self.free) + 1)
            self.aim[self.free.index(row) + 1] = -self.by

    def copied(self):
        """Return a tableau that stands alike; lines are never changed, but exchanged."""
        other = Tableau(self.m, (), self.aim)
        other.held = list(self.held)
        other.free = list(self.free)
        other.lines = list(self.lines)
        other.by = self.by
        return other

    def loosen(self, row):
        """Take the value of a row as the form, and the row out; return False if no other row hangs on it."""
        if row in self.free:
            j = self.free.index(row)
            places = [i for i, line in enumerate(self.lines) if line[j + 1] != 0]
            if len(places) == 0:
                return False
            self.turn(places[0], j)
        i = self.held.index(row)
        self.aim = self.lines.pop(i)
        self.held.pop(i)
        return True

    def low_line(self):
        """Return the place of the first row whose value is below 0, -1 if there is none."""
        found = -1
        for i, line in enumerate(self.lines):
            if line[0] < 0 and self.is_row(self.held[i]) and (found < 0 or self.held[i] < self.held[found]):
                found = i
        return found

    def settle(self):
        """Turn until no row is below 0; return -1, or the place of a row that stays below 0."""
        i = self.low_line()
        while i >= 0:
            line, free = self.lines[i], self.free
            j = _least_of(free, [j for j, entry in enumerate(free) if self.is_row(entry) and line[j + 1] > 0])
            if j < 0:
                return i
            self.turn(i, j)
            i = self.low_line()
        return -1

    def falling_place(self):
        """Return the place of a free entry along which the form falls, -1 if there is none."""
        letters = [j for j, entry in enumerate(self.free) if not self.is_row(entry) and self.aim[j + 1] != 0]
        if letters:
            return letters[0]
        return _least_of(self.free, [j for j in range(len(self.free)) if self.aim[j + 1] < 0])

    def first_stop(self, j):
        """Return the place of the row that is the first to come to 0 when free[j] grows, -1 if none does."""
        found = -1
        for i, line in enumerate(self.lines):
            if self.is_row(self.held[i]) and line[j + 1] < 0:
                if found < 0 or self.stops_ahead(i, found, j + 1):
                    found = i
        return found

    def stops_ahead(self, i, other, place):
        """Tell whether row i comes to 0 ahead of the other one."""
        here, there = self.lines[i], self.lines[other]
        rest = here[0] * -there[place] - there[0] * -here[place]
        return rest < 0 or (rest == 0 and self.held[i] < self.held[other])

    def fall(self, enough=False):
        """Turn until the form is least; return -1, or the place of a free entry along which it falls on.

        If below 0 is enough, it ends there.
        """
        j = self.falling_place()
        while j >= 0 and not (enough and self.aim[0] < 0):
            i = self.first_stop(j) if self.is_row(self.free[j]) else -1
            if i < 0:
                return j
            self.turn(i, j)
            j = self.falling_place()
        return j

    def stays(self):
        """Tell whether the form is nowhere below 0, the rows being settled."""
        return self.fall(True) < 0 and self.aim[0] >= 0

    def point(self):
        """Return the letters' values as fractions, the free entries being 0."""
        told = [(0, 1)] * self.m
        for entry, line in zip(self.held, self.lines):
            if not self.is_row(entry):
                told[entry] = fraction(line[0], self.by)
        return tuple(told)

    def factors(self, line, own, many):
        """Return (n, factors): with the factors of as many rows, what the line tells comes n times.

        own is the number of the row that the line tells, which gets a factor, too; -1 if it is the form.
        """
        told = [0] * many
        for j, entry in enumerate(self.free):
            if self.is_row(entry):
                told[entry - self.m] = abs(line[j + 1])
        if own >= 0:
            told[own] = self.by
        part = common_part([self.by, *told])
        return (self.by // part, tuple([factor // part for factor in told]))

    def ray(self, j):
        """Return the way that the letters go when free[j] makes the form fall."""
        sign = -1 if self.aim[j + 1] > 0 else 1
        told = [0] * self.m
        for entry, line in zip(self.held, self.lines):
            if not self.is_row(entry):
                told[entry] = sign * line[j + 1]
        if not self.is_row(self.free[j]):
            told[self.free[j]] = sign * self.by
        part = common_part(told)
        return tuple([entry // part for entry in told])
