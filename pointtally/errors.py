"""The errors of the package. What an error tells stands in its attributes."""


class TallyError(ValueError):
    """What all errors of the package have in common."""


class NotGrid(TallyError):
    """A value is no grid, or vectors make none."""


class NotBounded(TallyError):
    """Something goes on without end."""


class NotFit(TallyError):
    """Things were put together whose sizes do not go together."""


class NoPoint(TallyError):
    """A system or a set has no point."""


class ByNought(TallyError):
    """A division by 0."""


class Singular(TallyError):
    """A table has the determinant 0."""


class NotDeed(TallyError):
    """A value is no deed."""


class NotDone(TallyError):
    """No deed stands that could be taken back."""


class NotUndone(TallyError):
    """No deed was taken back that could be done once more."""


class NotForm(TallyError):
    """A value is no form; place tells its first wrong entry, or -1."""

    def __init__(self, place):
        self.place = place


class NotHall(TallyError):
    """A value is no hall; place tells its first wrong part."""

    def __init__(self, place):
        self.place = place


class NotTally(TallyError):
    """A value is no tally; place tells its first wrong entry, or -1."""

    def __init__(self, place):
        self.place = place


class NotText(TallyError):
    """A text cannot be read; place tells where the first unreadable token begins."""

    def __init__(self, place):
        self.place = place


class NotSheet(TallyError):
    """A value is no sheet; place tells its first wrong entry, or -1."""

    def __init__(self, place):
        self.place = place


class NotFormula(TallyError):
    """A value is no formula; path leads to its first wrong node."""

    def __init__(self, path):
        self.path = path


class NotPaper(TallyError):
    """A value is no paper; path leads to what is wrong in it."""

    def __init__(self, path):
        self.path = path


class NotClaim(TallyError):
    """A value is no claim; rule tells what it breaks, place where."""

    def __init__(self, rule, place):
        self.rule = rule
        self.place = place


class NotNest(TallyError):
    """A value is no nest; rule tells what it breaks, path where."""

    def __init__(self, rule, path):
        self.rule = rule
        self.path = path


class NotNamed(TallyError):
    """A name stands for nothing."""

    def __init__(self, name):
        self.name = name


class NotBook(TallyError):
    """A value is no book; rule tells what it breaks, what tells where."""

    def __init__(self, rule, what):
        self.rule = rule
        self.what = what


class TooMany(TallyError):
    """There is more than the limit lets."""

    def __init__(self, limit):
        self.limit = limit
