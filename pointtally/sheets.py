"""Sheets: sayings with papers that the judge takes."""

from pointtally.answers import answer
from pointtally.errors import NotSheet
from pointtally.judging import judge


def answered(claims):
    """Return the sheet of what answer returns for some claims."""
    return tuple([answer(claim) for claim in claims])


def sheet_breach(value):
    """Return None if any value is a sheet, -1 for what is no tuple, else the index of its first entry that is wrong."""
    if not isinstance(value, tuple):
        return -1
    for i, entry in enumerate(value):
        if not isinstance(entry, tuple) or len(entry) != 2 or not judge(entry[0], entry[1]):
            return i
    return None


def check_sheet(value):
    """Return any value that is a sheet."""
    place = sheet_breach(value)
    if place is not None:
        raise NotSheet(place)
    return value
