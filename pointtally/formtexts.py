"""Formulas and rooms as texts, there and back."""

from pointtally.formreader import Reader
from pointtally.halls import MOST_PARAMETERS, MOST_UNKNOWNS

LOT = 10 ** 60


def _digits(number):
    """Return the digits of an integer from 0 on, however many; Python's own way ends at some thousand."""
    lots = []
    while number >= LOT:
        number, low = divmod(number, LOT)
        lots.append(str(low).zfill(60))
    lots.append(str(number))
    return "".join(lots[::-1])


def _form_text(form, names):
    """Return the text of a form."""
    parts = []
    for entry, name in zip(form[1:], names):
        if entry != 0:
            ahead = "" if abs(entry) == 1 else _digits(abs(entry)) + " "
            parts.append((entry < 0, ahead + name))
    if form[0] != 0 or len(parts) == 0:
        parts.append((form[0] < 0, _digits(abs(form[0]))))
    below, text = parts[0]
    rest = [(" - " if minus else " + ") + part for minus, part in parts[1:]]
    return ("-" if below else "") + text + "".join(rest)


def _new_name(names):
    """Return the first of k1, k2, .. that is no name in force."""
    number = 1
    while f"k{number}" in names:
        number += 1
    return f"k{number}"


def formula_text(formula, names):
    """Return the text of a formula over letters with these names."""
    word = formula[0]
    if word == "row":
        return _form_text(formula[1], names) + " >= 0"
    if word == "divides":
        return f"{formula[1]} divides ({_form_text(formula[2], names)})"
    if word == "not":
        return f"not({formula_text(formula[1], names)})"
    if word == "some":
        name = _new_name(names)
        return f"some {name} ({formula_text(formula[1], (*names, name))})"
    inner = ", ".join([formula_text(part, names) for part in formula[1:]])
    return f"all({inner})" if word == "and" else f"any({inner})"


def read_formula(text, names):
    """Return the formula that a text tells over letters with these names."""
    reader = Reader(text, names)
    formula = reader.formula()
    reader.end()
    return formula


def room_text(k, d, names, formula):
    """Return the text of a room and a formula over its letters."""
    front = ""
    if k > 0:
        front = front + "for " + ", ".join(names[:k]) + " "
    if d > 0:
        front = front + "count " + ", ".join(names[k:]) + " "
    return front + "where " + formula_text(formula, names)


def read_room(text):
    """Return (k, d, names, formula), as a text tells them."""
    reader = Reader(text, ())
    k = reader.new_names(MOST_PARAMETERS) if reader.skip("for") else 0
    d = reader.new_names(MOST_UNKNOWNS) if reader.skip("count") else 0
    reader.need("where")
    formula = reader.formula()
    reader.end()
    return (k, d, reader.names, formula)
